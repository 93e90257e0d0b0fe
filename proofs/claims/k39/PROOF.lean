import PyProof.Rows.All
import Wide.All
import OpenK.AllK
import Wide.FinOn
import PyProof.EqAt
import PyProof.EqKinds
import PyProof.TupleCall
import HandS.ForMost
import HandS.ForExc
import HandS.Wide
import HandS.IsInst
import HandS.SortInts
import HandS.Strs
import HandS.SetFor
import HandS.Conv
import HandS.Small
import HandS.Defaults
import HandS.Walk
import HandS.Flow
import HandS.Codes
import HandS.ExcInit
import HandS.ExcField
import HandS.Style
import HandS.TryMany
import PySem.Challenge.RW_risingcalls_k39_whole_staircases
import HandS.TupAny
import HandS.Strs
import HandS.Lambda
import HandS.EndOwn
import HandS.Style
import HandS.SortKw
import HandS.SortRule
import HandS.Zip
import HandS.Text
import HandS.Property
import KE.KMinKey
import HandS.TupMul
import KE.KDictZip
import KE.GoesZip
import KE.GoesEnum
import KE.GoesMore
import KE.KExcIs
import KE.KTupSum
import PyProof.ListNew
import PyProof.Draws
import PyProof.SumAny
import PyProof.ReprRoads
import PyProof.ReprLen
set_option Elab.async false
set_option linter.all false
set_option maxRecDepth 100000
set_option maxHeartbeats 2000000

/-! ### my words for readings: one lemma a construct, by the head of the reading -/
namespace Jv
open PySem PySem.Spec PyProof.Rows L2
section
variable {K : PySem.W.Frag} {σ : L2.St} {H : Hp} {D : Ends} {t u : TS} {te ta tb tc : TE} {g : TG} {tt tu : TT} {tA : TA} {i : Nat} {v x y z : V} {Q : VK} {R : Bool → Hp → Prop}
theorem r_seq (h : t { D with nx := u D } σ H) : tSeq t u D σ H := h
theorem r_asg (h : te σ H fun x H1 => g x σ H1 D.nx) : tAsg te g D σ H := h
theorem r_gn {Q : L2.St → Hp → Prop} (h : Q (σ.set i (some v)) H) : gName i v σ H Q := h
theorem r_ret (h : te σ H D.rt) : tRet te D σ H := h
theorem r_retN (h : D.rt .non H) : tRetN D σ H := h
theorem r_drop (h : te σ H fun _ H1 => D.nx σ H1) : tDrop te D σ H := h
theorem r_if (h : tt σ H fun b H1 => if b = true then t D σ H1 else u D σ H1) : tIfS tt t u D σ H := h
theorem r_next (h : D.nx σ H) : tNext D σ H := h
theorem r_brk (h : D.bk σ H) : tBreak D σ H := h
theorem r_cont (h : D.ct σ H) : tCont D σ H := h
theorem r_var (h : σ[i]? = some (some v)) (q : Q v H) : tVar i σ H Q := ⟨v, h, q⟩
theorem r_c (q : Q v H) : tC v σ H Q := q
theorem r_op {r : R2} (h : ta σ H fun x H1 => tb σ H1 fun y H2 => r x y H2 Q) : tOp r ta tb σ H Q := h
theorem r_un {r : V → Hp → VK → Prop} (h : ta σ H fun x H1 => r x H1 Q) : tUn r ta σ H Q := h
theorem r_I {C : Int → Int → Prop} {f : Int → Int → V} {a b : Int} (c : C a b) (q : Q (f a b) H) : rI C f (.int a) (.int b) H Q := ⟨a, b, rfl, rfl, c, q⟩
theorem r_I0 {f : Int → Int → V} {a b : Int} (q : Q (f a b) H) : rI0 f (.int a) (.int b) H Q := ⟨a, b, rfl, rfl, q⟩
theorem r_U {f : Int → V} {a : Int} (q : Q (f a) H) : rU f (.int a) H Q := ⟨a, rfl, q⟩
theorem r_eq (s : scal x y = true) (q : Q (.bl (decide (x = y))) H) : rEq x y H Q := ⟨s, q⟩
theorem r_ne (s : scal x y = true) (q : Q (.bl (!decide (x = y))) H) : rNe x y H Q := ⟨s, q⟩
theorem r_test (h : te σ H fun x H1 => ∃ k, x = .bl k ∧ R k H1) : tTest te σ H R := h
theorem r_B (h : te σ H fun x H1 => ∃ k, x = .bl k ∧ R k H1) : tB te σ H R := h
theorem r_bl {b : Bool} {P : Bool → Prop} (q : P b) : ∃ k, V.bl b = .bl k ∧ P k := ⟨b, rfl, q⟩
theorem r_and (h : tt σ H fun c H1 => if c = true then tu σ H1 R else R false H1) : tAnd tt tu σ H R := h
theorem r_or (h : tt σ H fun c H1 => if c = true then R true H1 else tu σ H1 R) : tOr tt tu σ H R := h
theorem r_not (h : tt σ H fun c H1 => R (!c) H1) : tNot tt σ H R := h
theorem r_andV (h : ta σ H fun x H1 => ∃ c, x = .bl c ∧ if c = true then tb σ H1 Q else Q (.bl false) H1) : tAndV ta tb σ H Q := h
theorem r_orV (h : ta σ H fun x H1 => ∃ c, x = .bl c ∧ if c = true then Q (.bl true) H1 else tb σ H1 Q) : tOrV ta tb σ H Q := h
theorem r_notV (h : ta σ H fun x H1 => ∃ c, x = .bl c ∧ Q (.bl (!c)) H1) : tNotV ta σ H Q := h
theorem r_ife (h : tt σ H fun c H1 => if c = true then ta σ H1 Q else tb σ H1 Q) : tIf tt ta tb σ H Q := h
theorem r_chain {r r' : R2} (h : ta σ H fun x H1 => tb σ H1 fun y H2 => r x y H2 fun z H3 => ∃ k, z = .bl k ∧
  (if k = true then tc σ H3 fun w' H4 => r' y w' H4 Q else Q (.bl false) H3)) : tChain r r' ta tb tc σ H Q := h
theorem r_nil {P : List V → Hp → Prop} (q : P [] H) : tNil σ H P := q
theorem r_cons {P : List V → Hp → Prop} (h : ta σ H fun x H1 => tA σ H1 fun xs H2 => P (x :: xs) H2) : tCons ta tA σ H P := h
theorem r_tup (h : tA σ H fun xs H1 => xs.length ≤ sizeLine ∧ ∀ p, H1 p = none → Q (.ref p) (upd H1 p (.tup xs))) : tTup tA σ H Q := h
theorem r_lst (h : tA σ H fun xs H1 => xs.length ≤ sizeLine ∧ ∀ p, H1 p = none → Q (.ref p) (upd H1 p (.lst xs))) : tLst tA σ H Q := h
theorem r_new {n : Nat} {P : Prop} (h1 : n ≤ 1000) (q : P) : n ≤ sizeLine ∧ P := ⟨Nat.le_trans h1 (by decide), q⟩
theorem r_CB {r : List V → Hp → VK → Prop} (h : tA σ H fun vs H1 => r vs H1 Q) : tCB r tA σ H Q := h
theorem r_call {sp : Sp} {dvs : List V} {E : XK} (h : tA σ H fun vs H1 => sp (vs ++ dvs) H1 Q E) : tCall sp dvs E tA σ H Q := h
theorem r_callS {sp : Sp} {E : L2.St → XK} (h : tA σ H fun vs H1 => sp vs H1 Q (E σ)) : tCallS sp E tA σ H Q := h
theorem r_for {wi : TI} (h : wi σ H fun J H1 => ∃ W : Nat → Nat → L2.St → Hp → Prop, (∃ m, W 0 m σ H1) ∧ ∀ i m σ H, W i m σ H →
  (J.stop i H ∧ D.nx σ H) ∨ (J.go i H ∧ ∃ N : L2.St → Hp → Prop, (∀ σ' H', N σ' H' → ∃ m', m' < m ∧ W (i + 1) m' σ' H') ∧ ∀ x H', J.yld i H x H' → g x σ H' fun σ2 H2 => t { D with nx := N, ct := N, bk := D.nx } σ2 H2)) : tFor wi g t D σ H := h
theorem r_iR1 {P : It → Hp → Prop} (h : tA σ H fun vs H1 => ∃ j : Int, vs = [.int j] ∧ -(2 ^ 62) ≤ j ∧ j < 2 ^ 62 ∧ P (Itr 0 j.toNat) H1) : iRng1 tA σ H P := h
theorem r_iR2 {P : It → Hp → Prop} (h : tA σ H fun vs H1 => ∃ i j : Int, vs = [.int i, .int j] ∧ (-(2 ^ 62) ≤ i ∧ i < 2 ^ 62 ∧ -(2 ^ 62) ≤ j ∧ j < 2 ^ 62) ∧ P (Itr i (j - i).toNat) H1) : iRng2 tA σ H P := h
theorem r_sub {to ti : TE} {w : TSet} {Q : L2.St → Hp → Prop} (h : to σ H fun o H1 => ti σ H1 fun i H2 => w o i v H2 fun H3 => Q σ H3) : gSub to ti w v σ H Q := h
theorem r_ixL {p : Addr} {xs : List V} {k : Int} (h : SqL K H p xs) (e : atI xs k = some v) (q : Q v H) : rIxL K (.ref p) (.int k) H Q := ⟨p, xs, k, v, rfl, rfl, h, e, q⟩
theorem r_ixT {p : Addr} {xs : List V} {k : Int} (h : SqT K H p xs) (e : atI xs k = some v) (q : Q v H) : rIxT K (.ref p) (.int k) H Q := ⟨p, xs, k, v, rfl, rfl, h, e, q⟩
theorem r_setL {p : Addr} {xs : List V} {k : Int} {j : Nat} {P : Hp → Prop} (h : H p = some (.lst xs)) (e : ixN xs.length k = some j) (q : P (upd H p (.lst (xs.set j v)))) : rSetL (.ref p) (.int k) v H P := ⟨p, xs, k, j, rfl, rfl, h, e, q⟩
theorem r_true {A B : Prop} {c : Bool} (e : c = true) (h : A) : if c = true then A else B := by rw [if_pos e]; exact h
theorem r_false {A B : Prop} {c : Bool} (e : c = false) (h : B) : if c = true then A else B := by rw [e, if_neg Bool.false_ne_true]; exact h
theorem r_dec {A B p : Prop} {_ : Decidable p} (h1 : p → A) (h2 : ¬ p → B) : if decide p = true then A else B := by
  by_cases h : p
  · exact r_true (decide_eq_true h) (h1 h)
  · exact r_false (decide_eq_false h) (h2 h)
theorem r_ndec {A B p : Prop} {_ : Decidable p} (h1 : ¬ p → A) (h2 : p → B) : if (!decide p) = true then A else B := by
  by_cases h : p
  · exact r_false (by rw [decide_eq_true h]; rfl) (h2 h)
  · exact r_true (by rw [decide_eq_false h]; rfl) (h1 h)
theorem r_bool {A B : Prop} {c : Bool} (h1 : c = true → A) (h2 : c = false → B) : if c = true then A else B := by
  cases c
  · exact r_false rfl (h2 rfl)
  · exact r_true rfl (h1 rfl)
theorem r_int {a : Int} {P : Int → Prop} {P' : Bool → Prop} (q : P a) : (∃ i, [V.int a] = [.int i] ∧ P i) ∨ ∃ k, [V.int a] = [.bl k] ∧ P' k := .inl ⟨a, rfl, q⟩
theorem small_of {n : Nat} (h : n ≤ 1000) : n ≤ sizeLine := Nat.le_trans h (by decide)
theorem small_lt {n : Nat} (h : n < 1000) : n < sizeLine := Nat.lt_of_lt_of_le h (by decide)
/-- what stands ahead of a new object, stands behind it -/
theorem kp {a p : Addr} {o u : HO} (h : H a = some o) (n : H p = none) : upd H p u a = some o := by rw [upd_ne (ne_of_none h n)]; exact h
theorem kpO {a l : Addr} {o u : HO} (h : H a = some o) (n : a ≠ l) : upd H l u a = some o := by rw [upd_ne n]; exact h
theorem same_new {p : Addr} {u : HO} (n : H p = none) : Same H (upd H p u) := fun _ _ e => kp e n
theorem Same.sqT {H' : Hp} {a : Addr} {xs : List V} (e : Same H H') (h : SqT K H a xs) : SqT K H' a xs := by
  rcases h with (h | ⟨o, h⟩) | h
  · exact .inl (.inl (e _ _ h))
  · exact .inl (.inr ⟨o, e _ _ h⟩)
  · exact .inr h
end
end Jv

/-! ### rules that the layer lacks: set(x), sorted(x) of a list or a tuple of ints; X() of an own exception; what the top says of exceptions -/
namespace JvS
open PySem PySem.Spec PyProof.Rows L2 SrtO
section
variable {P : Program} {w : World} {A : Around} {E : Value → Shared → Prop} {s : Shared}
/-- the empty set that set() begins with -/
abbrev emptyS (w : World) : Obj := { cls := .type "set", dict := none, data := .set #[] 0 (.fresh 0 0 (!w.params.followText "set-order")) }
theorem set_listI {l : Addr} {items : Array Value} (ns : List Int) {Q : Value → Shared → Prop} (hh : A.handled = none) (hl : s.heap.IsList l items) (hv : IntsAre items.toList ns) (few : ns.length + 1 < scanBound)
    (h : ∀ (h' : Heap) (tk c : Nat), SetR w h' s.heap.objs.size (fun j => decide (j ∈ ns)) c → c ≤ ns.length → (∀ b o, s.heap.get? b = some o → h'.get? b = some o) → Q (.ref s.heap.objs.size) { s with heap := h', toks := tk }) :
    wpAny (model P w) A (call (.type "set") [.ref l]) Q E s := by
  have sz : items.size = ns.length := by simpa using IntsAre.length hv
  obtain ⟨cM, tM, eM⟩ := F.called_set.mro
  have e1 := F.called_set.made; have e2 := F.called_set.sub; have e3 := F.called_set.notType; have e4 := F.called_set.canCreate; have e5 := F.typeCall_set_1 (.ref l)
  refine wpAny_call (codeAny_of_tree (show wpAny _ _ (callAny (.type "set") _) _ _ _ from wpAny_pure ⟨Code.quiet_builtin _ (by decide +kernel), codeAny_builtin F.entry_type_call ?_⟩))
  rw [Around.under_plain (weight_type_call_type "set" [.ref l] []) rfl]
  repeat any_goals (first | wp_step | assumption)
  refine codeAny_mono (code_set_led1 (P := P) (.ref l) (E := E) (Q₁ := fun v s1 => v = .ref s.heap.objs.size ∧ s1 = { s with heap := s.heap.push (emptyS w) }) ⟨rfl, rfl⟩) fun r s1 hr => ?_
  cases r with
  | error e => exact hr
  | ok fl =>
    cases fl with
    | next => exact hr.elim
    | brk => exact hr.elim
    | cont => exact hr.elim
    | ret v =>
      obtain ⟨rfl, rfl⟩ := hr
      have atS : (s.heap.push (emptyS w)).get? s.heap.objs.size = some (emptyS w) := Heap.get?_push_size _ rfl
      have tyS : Shared.TypeIs { s with heap := s.heap.push (emptyS w) } (.ref s.heap.objs.size) "set" := ⟨_, atS, rfl⟩
      have e6 := F.called_set.init.lookup; have e7 := F.called_set.init.bind (.ref s.heap.objs.size)
      repeat any_goals (first | wp_step | assumption)
      refine codeAny_mono (codeAny_call_builtin (R := wants (fun r s2 => r = .none ∧ ∃ h' tk c, s2 = { s with heap := h', toks := tk } ∧ SetR w h' s.heap.objs.size (fun j => decide (j ∈ ns)) c ∧ c ≤ ns.length ∧
        ∀ b o, s.heap.get? b = some o → h'.get? b = some o) E) F.called_set.init.plain F.entry_set_init (check_set_init_1 tyS ?_)) fun r2 s2 hr2 => ?_
      · have old : ∀ b o, s.heap.get? b = some o → (s.heap.push (emptyS w)).get? b = some o := fun b o q => Heap.get?_push_of_some _ q
        have lS : l < s.heap.objs.size := by obtain ⟨o, q, _⟩ := hl; exact Heap.lt_size q
        obtain ⟨⟨oc, od, dt, sl⟩, ol, q1, n1, q2⟩ := hl
        simp only at q1 q2; subst q1 q2
        have ol2 := old _ _ ol
        have isl : (s.heap.push (emptyS w)).IsList l items := ⟨_, ol2, rfl, n1, rfl⟩
        have b1 := F.sub_list_set; have b2 := F.sub_list_frozenset; have b3 : (Value.type "list" == Value.type "dict") = false := by decide
        unfold Builtin.«set.__init__» noKeywords Builtin.Frozenset.updateFrom
        generalize walkIt : pyIter = PI
        wp_walk
        subst walkIt
        refine wpAny_pyIter_list isl (wpAny_bind (wpAny_runValue ?_))
        have more : (s.heap.push (emptyS w)).objs.size = s.heap.objs.size + 1 := Heap.size_push ..
        have hh3 : A.in1.in1.in1.handled = none := by simp [hh]
        have lI : l ≠ (s.heap.push (emptyS w)).objs.size := by rw [more]; exact Nat.ne_of_lt (Nat.lt_succ_of_lt lS)
        have nS : s.heap.objs.size ∉ [(s.heap.push (emptyS w)).objs.size, l] := by
          rw [more]; simp only [List.mem_cons, List.not_mem_nil, or_false, not_or]
          exact ⟨Nat.ne_of_lt (Nat.lt_succ_self _), Nat.ne_of_gt lS⟩
        refine set_update_ints ((Walks.list hh3 _ l lI items).toS) s.heap.objs.size nS ns sz few (fun i v q => ?_) (items.size - 0) 0 _ (by omega) (Nat.zero_le _) ⟨⟨_, Heap.get?_push_size _ rfl, rfl, rfl⟩, isl.push _⟩ ⟨0, Nat.le_refl 0, setR_new_at (Heap.get?_push_of_some _ atS)⟩ fun s3 c hm hc hS => ?_
        · have hi : i < ns.length := by rw [← sz]; exact (Array.getElem?_eq_some_iff.mp q).1
          obtain ⟨t, e⟩ := PyProof.Rows.IntsAre.int_at hv i v (by rw [Array.getElem?_toList]; exact q)
          exact ⟨ns[i], t, List.getElem?_eq_getElem hi, by rw [e, List.getD_eq_getElem?_getD, List.getElem?_eq_getElem hi]; rfl⟩
        · obtain ⟨h3, g3, d3, t3, o3⟩ := s3
          obtain rfl : g3 = s.gens := hm.gens
          obtain rfl : d3 = s.drawn := hm.drawn
          obtain rfl : o3 = s.os := hm.os
          rw [sz] at hc
          refine wpAny_pure (show wpAny _ _ (ret Value.none) _ _ _ from wpAny_pure ⟨rfl, h3, t3, c, rfl, hS, hc, fun b o e => ?_⟩)
          have lb : b < s.heap.objs.size := Heap.lt_size e
          exact hm.heap b o (by
            rw [more]; simp only [List.mem_cons, List.not_mem_nil, or_false, not_or]
            exact ⟨Nat.ne_of_lt lb, Nat.ne_of_lt (Nat.lt_succ_of_lt lb)⟩) (Heap.get?_push_of_some _ (old _ _ e))
      · cases r2 with
        | error e => exact hr2
        | ok f2 =>
          cases f2 with
          | next => exact hr2.elim
          | brk => exact hr2.elim
          | cont => exact hr2.elim
          | ret r =>
            obtain ⟨rfl, h', tk, c, rfl, hS, hc, keep⟩ := hr2
            repeat any_goals (first | wp_step | assumption)
            exact h _ _ _ hS hc keep
end
end JvS
namespace Jv
open PySem PySem.Spec PyProof.Rows L2
section
variable {X : Cx}
/-- set(x), x a list or a tuple of ints -/
def rSetI (K : PySem.W.Frag) (w : World) : List V → Hp → VK → Prop := fun xs H Q => ∃ (l : Addr) (ns : List Int), xs = [.ref l] ∧ (SqL K H l (ns.map V.int) ∨ SqT K H l (ns.map V.int)) ∧ ns.length ≤ 1000 ∧
  ∀ p c, H p = none → c ≤ ns.length → Q (.ref p) (upd H p (SetO w p (fun j => decide (j ∈ ns)) c))
theorem cr_setI (hc : X.calm = true) : CallR X (.type "set") (rSetI X.K X.w) := by
  intro pins s σ H xs us Q I r h
  obtain ⟨l, ns, rfl, hs, few, q⟩ := h
  rw [Vals.ref1 r]
  have fin : ∀ (h' : Heap) (tk c : Nat), SetR X.w h' s.heap.objs.size (fun j => decide (j ∈ ns)) c → c ≤ ns.length → (∀ b o, s.heap.get? b = some o → h'.get? b = some o) →
      EP X pins σ Q (.ref s.heap.objs.size) { s with heap := h', toks := tk } := fun h' tk c R hcn keep =>
    ⟨.ref s.heap.objs.size, upd H s.heap.objs.size (SetO X.w s.heap.objs.size (fun j => decide (j ∈ ns)) c), I.laid (t' := tk) keep (Nat.le_refl _) (setO_new R), rfl, q _ c (I.hok.fresh (Nat.le_refl _)) hcn⟩
  rcases hs with hs | hs
  · obtain ⟨its, rv, hl, hz⟩ := I.list hs
    exact JvS.set_listI ns (I.ok.hd hc) hl.isList (by simpa using ints_of_vals rv) (by unfold scanBound; omega) fin
  · obtain ⟨its, rv, ht, hz⟩ := I.tuple hs
    exact call_set_tupI ns (I.ok.hd hc) (show s.heap.IsTuple l its.toArray from ht) (by simpa using ints_of_vals rv) (by unfold scanBound; omega) fin
/-- either of two rules for a call -/
theorem crOr {f : Value} {r r' : List V → Hp → VK → Prop} (h : CallR X f r) (h' : CallR X f r') : CallR X f (fun xs H Q => r xs H Q ∨ r' xs H Q) := fun pins s σ H xs us Q I rv q =>
  q.elim (fun q => h pins s σ H xs us Q I rv q) fun q => h' pins s σ H xs us Q I rv q
end
/-- an own error class without an __init__ of its own -/
structure ExcP (K : PySem.W.Frag) (C : Addr) : Prop where
  x : PySem.W.excIn K C [.type "ValueError", .type "Exception", .type "BaseException", .type "object"] "ValueError.__new__" = true
  k : PySem.W.keepIn K (.ref C) = true
  b : PySem.W.subIn K (.ref C) (.type "BaseException") = some true
  t : PySem.W.typeIn K (.ref C) = some (.type "type")
  i : PySem.W.isClsIn K C = true
  s : PySem.W.subIn K (.ref C) (.ref C) = some true
theorem exm_of {K : PySem.W.Frag} {C : Addr} (b : PySem.W.subIn K (.ref C) (.type "BaseException") = some true) (i : PySem.W.isClsIn K C = true) (t : PySem.W.typeIn K (.ref C) = some (.type "type")) (s : PySem.W.subIn K (.ref C) (.ref C) = some true) :
    PySem.W.exmOne K (.ref C) (.ref C) = some true := by
  have i' : (PySem.W.clsIn K C).isSome = true := i
  unfold PySem.W.exmOne PySem.W.kitCls
  simp [b, i', t, s]
theorem ExcP.e {K : PySem.W.Frag} {C : Addr} (h : ExcP K C) : PySem.W.exmOne K (.ref C) (.ref C) = some true := exm_of h.b h.i h.t h.s
theorem ExcP.raises {X : Cx} {C : Addr} (h : ExcP X.K C) : Raises X (.ref C) := raises_own h.b h.t
/-- .. with one, at fI -/
structure ExcI (K : PySem.W.Frag) (C fI : Addr) : Prop where
  o : OexC K C
  n : PySem.W.findIn K (.ref C) "__init__" = some (some (.ref fI))
  y : PySem.W.typeIn K (.ref fI) = some (.type "function")
  i : PySem.W.isClsIn K C = true
  s : PySem.W.subIn K (.ref C) (.ref C) = some true
  f : XfC K C
theorem ExcI.e {K : PySem.W.Frag} {C fI : Addr} (h : ExcI K C fI) : PySem.W.exmOne K (.ref C) (.ref C) = some true := exm_of h.o.exC h.i h.o.tyC h.s
section
variable {X : Cx}
/-- X() -/
theorem pmk_own0 {C : Addr} {bmB : List Value} {B newId initId : String} {x : Str} {p pos : Pos} (F : ExcBaseFacts B newId initId bmB) (q : PySem.W.excIn X.K C bmB newId = true) (gC : X.mg x = some (.ref C))
    (kC : PySem.W.keepIn X.K (.ref C) = true) (r : Raises X (.ref C)) (hg : Gl X x) (hdb : (x == ("__debug__" : Str)) = false := by decide) : PMk X (.Call (.Name x p) [] [] pos) (fun _ H Q => Q (.ref C) none H) := by
  intro pins s σ H Q I h
  refine wpAny_Call_Name_kw (ld_glob I hg gC (PySem.W.callWith_K0 I.kIn kC ?_) hdb)
  obtain ⟨bm, N, nm, qn, bs, hdct, sn, sub, ab, col, dd, k0, k1, k2, k3, k5, mN, hC, hN, hni, T⟩ := exc_obj I.kIn q
  exact wpAny_call_exc_subT F T hC hN hni (fun h' e hm => mk_of I hm r h (I.hok.gone hm.new)) (Nat.zero_le _)
end
end Jv

/-! ### binding with defaults -/
namespace Jv
open PySem PySem.Spec PyProof.Rows L2
section
variable {K : PySem.W.Frag} {fd : FuncData} {ps : List Str} {T : Addr} {o : Obj} {its : Array Value} {n : Nat}
theorem bindsD {ds : List Value} {m : Nat} (l : K.lookup T = some o) (hd : o.data = .seq its n) (hm : m + ds.length = ps.length)
    (h : ∀ us : List Value, us.length = m → ∃ k, bindArgs fd ⟨us, []⟩ = seqItems? (.ref T) >>= k ∧ k (some its) = pure (ps.zip (us ++ ds))) : Binds K fd ps ds := fun s us X hl => by
  obtain ⟨k, e1, e2⟩ := h us (by rw [List.length_append] at hl; omega)
  refine BindsTo.of_looks fun M => ?_
  rw [e1]
  exact looks_items X l hd (.of_pure e2)
theorem kbD {m : Nat} {ks : List Str} {g : List Value → List Value → List Value} {gV : List V → List V → List V} (l : K.lookup T = some o) (hd : o.data = .seq its n)
    (h : ∀ us ws : List Value, us.length = m → ws.length = ks.length → ∃ k, bindArgs fd ⟨us, ks.zip ws⟩ = seqItems? (.ref T) >>= k ∧ k (some its) = pure (ps.zip (g us ws)))
    (rel : ∀ {vs : List V} {us : List Value} {zs : List V} {ws : List Value}, Vals vs us → Vals zs ws → Vals (gV vs zs) (g us ws)) : KBn K fd ps m ks g gV := by
  refine ⟨fun s us ws X h1 h2 => ?_, rel⟩
  obtain ⟨k, e1, e2⟩ := h us ws h1 h2
  refine BindsTo.of_looks fun M => ?_
  rw [e1]
  exact looks_items X l hd (.of_pure e2)
end
end Jv
namespace Jv
open PySem PySem.Spec PyProof.Rows L2
section
variable {K : PySem.W.Frag} {σ : L2.St} {H : Hp} {D : Ends} {t u : TS} {te ta tb tc : TE} {g : TG} {tt tu : TT} {tA : TA} {i : Nat} {v x y z : V} {Q : VK} {R : Bool → Hp → Prop}
theorem r_gtup {T : Addr} {xs : List V} {n : Nat} {gs : TGs} {Q : L2.St → Hp → Prop} (h : SqT K H T xs) (hl : xs.length = n) (q : gs xs σ H Q) : gTup K n gs (.ref T) σ H Q := ⟨T, xs, rfl, h, hl, q⟩
theorem r_gcons {gs : TGs} {xs : List V} {Q : L2.St → Hp → Prop} (q : g v σ H fun σ' H' => gs xs σ' H' Q) : gCons g gs (v :: xs) σ H Q := ⟨v, xs, rfl, q⟩
theorem r_gnil {Q : L2.St → Hp → Prop} (q : Q σ H) : gNil [] σ H Q := ⟨rfl, q⟩
theorem r_lc {wi : TI} {vs : List Nat} (h : wi σ H fun J H1 => ∀ D, H1 D = none → ∃ W : Nat → Nat → Hp → Prop, (∃ m, W 0 m (upd H1 D (.lst []))) ∧ ∀ i m H, W i m H →
  (J.stop i H ∧ Q (.ref D) H) ∨ (J.go i H ∧ ∃ Nx : Hp → Prop, (∀ H', Nx H' → ∃ m', m' < m ∧ W (i + 1) m' H') ∧ ∀ x H', J.yld i H x H' → g x (wipe σ vs) H' fun σ2 H2 => wipe σ2 vs = wipe σ vs ∧ tt σ2 H2 fun b H3 =>
    if b = true then te σ2 H3 fun y H4 => ∃ acc, H4 D = some (.lst acc) ∧ acc.length < sizeLine ∧ Nx (upd H4 D (.lst (acc ++ [y]))) else Nx H3)) : tLc wi g tt te vs σ H Q := h
theorem r_iE {P : It → Hp → Prop} {a : Addr} {xs : List V} (h : SqL K H a xs) (q : P (Ite K a) H) : ∃ b ys, [V.ref a] = [.ref b] ∧ SqL K H b ys ∧ P (Ite K b) H := ⟨a, xs, rfl, h, q⟩
theorem r_iEn {P : It → Hp → Prop} (h : tA σ H fun vs H1 => ∃ b ys, vs = [.ref b] ∧ SqL K H1 b ys ∧ P (Ite K b) H1) : iEnum K tA σ H P := h
theorem r_iL {P : It → Hp → Prop} (h : te σ H fun x H1 => ∃ a, x = .ref a ∧ (∃ xs, SqL K H1 a xs) ∧ P (Itl K a) H1) : iList K te σ H P := h
theorem r_iT {P : It → Hp → Prop} (h : te σ H fun x H1 => ∃ a, x = .ref a ∧ (∃ xs, SqT K H1 a xs) ∧ P (Itt K a) H1) : iTup K te σ H P := h
theorem r_yes (q : R true H) : tYes σ H R := q
theorem r_abs {a : Int} {P : Int → Prop} (q : P (if a < 0 then -a else a)) : ∃ i, [V.int a] = [.int i] ∧ P (if i < 0 then -i else i) := ⟨a, rfl, q⟩
theorem r_ift {A B : Prop} (h : A) : if true = true then A else B := by rw [if_pos rfl]; exact h
theorem r_iff {A B : Prop} (h : B) : if false = true then A else B := by rw [if_neg Bool.false_ne_true]; exact h
end
end Jv
namespace Jv
open PySem PySem.Spec PyProof.Rows L2
section
variable {K : PySem.W.Frag} {H H' : Hp} {a p l : Addr} {xs : List V} {o u : HO}
theorem sqL_new (h : SqL K H a xs) (n : H p = none) : SqL K (upd H p u) a xs := (same_new n).seq h
theorem sqT_new (h : SqT K H a xs) (n : H p = none) : SqT K (upd H p u) a xs := Jv.Same.sqT (same_new n) h
theorem sqL_at (h : H a = some (.lst xs)) : SqL K H a xs := .inl (.inl h)
theorem sqT_at (h : H a = some (.tup xs)) : SqT K H a xs := .inl (.inl h)
theorem map_at {f : Int → V} {ns : List Int} {i : Nat} {x : V} (h : (ns.map f)[i]? = some x) : ∃ z, ns[i]? = some z ∧ x = f z := by
  rw [List.getElem?_map] at h
  cases e : ns[i]? with
  | none => rw [e] at h; cases h
  | some z => rw [e] at h; exact ⟨z, rfl, (Option.some.inj h).symm⟩
end
end Jv
namespace Jv
open PySem PySem.Spec PyProof.Rows L2
theorem r_wipe {σ1 σ2 : L2.St} {vs : List Nat} {P : Prop} (e : wipe σ1 vs = wipe σ2 vs) (q : P) : wipe σ1 vs = wipe σ2 vs ∧ P := ⟨e, q⟩
end Jv
namespace Jv
open PySem PySem.Spec PyProof.Rows L2
section
variable {K : PySem.W.Frag} {H : Hp}
def rLenK (K : PySem.W.Frag) : List V → Hp → VK → Prop := fun xs H Q => ∃ x n, xs = [x] ∧ LenV K x H n ∧ Q (.int n) H
theorem cr_len {X : Cx} : CallR X (.builtin "len") (rLenK X.K) := call_len
def rAbs : List V → Hp → VK → Prop := fun xs H Q => ∃ i, xs = [.int i] ∧ Q (.int (if i < 0 then -i else i)) H
theorem cr_abs {X : Cx} : CallR X (.builtin "abs") rAbs := call_abs
def rMin2 : List V → Hp → VK → Prop := fun xs H Q => ∃ i j, xs = [.int i, .int j] ∧ Q (.int (if j < i then j else i)) H
def rMax2 : List V → Hp → VK → Prop := fun xs H Q => ∃ i j, xs = [.int i, .int j] ∧ Q (.int (if j > i then j else i)) H
def rInt : List V → Hp → VK → Prop := fun xs H Q => (∃ i, xs = [.int i] ∧ Q (.int i) H) ∨ ∃ k, xs = [.bl k] ∧ Q (.int (if k then 1 else 0)) H
theorem cr_int {X : Cx} : CallR X (.type "int") rInt := call_int1
def rListOf (K : PySem.W.Frag) : List V → Hp → VK → Prop := fun xs H Q => ∃ p ys, xs = [.ref p] ∧ (SqL K H p ys ∨ SqT K H p ys) ∧ ∀ l, H l = none → Q (.ref l) (upd H l (.lst ys))
def rTupOf (K : PySem.W.Frag) : List V → Hp → VK → Prop := fun xs H Q => ∃ p ys, xs = [.ref p] ∧ ((SqL K H p ys ∧ ∀ l, H l = none → Q (.ref l) (upd H l (.tup ys))) ∨ (SqT K H p ys ∧ Q (.ref p) H))
section
variable {Q : VK}
theorem r_len {p : Addr} {xs : List V} (h : SqL K H p xs ∨ SqT K H p xs) (q : Q (.int xs.length) H) : rLenK K [V.ref p] H Q := ⟨_, xs.length, rfl, by
  rcases h with h | h
  · exact .inl ⟨xs, h, rfl⟩
  · exact .inr ⟨xs, h, rfl⟩, q⟩
theorem r_absN {a : Int} (q : Q (.int (if a < 0 then -a else a)) H) : rAbs [.int a] H Q := ⟨a, rfl, q⟩
theorem r_min {a b : Int} (q : Q (.int (if b < a then b else a)) H) : rMin2 [.int a, .int b] H Q := ⟨a, b, rfl, q⟩
theorem r_max {a b : Int} (q : Q (.int (if b > a then b else a)) H) : rMax2 [.int a, .int b] H Q := ⟨a, b, rfl, q⟩
theorem r_intN {a : Int} (q : Q (.int a) H) : rInt [.int a] H Q := .inl ⟨a, rfl, q⟩
theorem r_listOf {p : Addr} {ys : List V} (h : SqL K H p ys ∨ SqT K H p ys) (q : ∀ l, H l = none → Q (.ref l) (upd H l (.lst ys))) : rListOf K [.ref p] H Q := ⟨p, ys, rfl, h, q⟩
theorem r_tupOfL {p : Addr} {ys : List V} (h : SqL K H p ys) (q : ∀ l, H l = none → Q (.ref l) (upd H l (.tup ys))) : rTupOf K [.ref p] H Q := ⟨p, ys, rfl, .inl ⟨h, q⟩⟩
theorem r_tupOfT {p : Addr} {ys : List V} (h : SqT K H p ys) (q : Q (.ref p) H) : rTupOf K [.ref p] H Q := ⟨p, ys, rfl, .inr ⟨h, q⟩⟩
end
theorem r_decI {A B : Prop} {a b : Int} (h1 : a = b → A) (h2 : a ≠ b → B) : if decide (V.int a = V.int b) = true then A else B := r_dec (fun h => h1 (V.int.inj h)) fun h => h2 fun e => h (by rw [e])
theorem r_ndecI {A B : Prop} {a b : Int} (h1 : a ≠ b → A) (h2 : a = b → B) : if (!decide (V.int a = V.int b)) = true then A else B := r_ndec (fun h => h1 fun e => h (by rw [e])) fun h => h2 (V.int.inj h)
theorem ixN_of {n j : Nat} (hj : j < n) : ixN n (j : Int) = some j := by
  unfold ixN
  rw [if_pos (by omega), if_pos (by omega)]
  simp
end
end Jv
namespace Jv
open PySem PySem.Spec PyProof.Rows L2
theorem at_i {xs : List V} {k : Int} {v : V} (h0 : 0 ≤ k) (h : xs[k.toNat]? = some v) : atI xs k = some v := by
  rw [show k = ((k.toNat : Nat) : Int) by omega]
  exact atI_nat h
theorem map_get {f : Int → V} {ns : List Int} {i : Nat} (h : i < ns.length) : (ns.map f)[i]? = some (f ns[i]) := by
  rw [List.getElem?_map, List.getElem?_eq_getElem h]; rfl
end Jv

/-! ### things of any sort -/
namespace Jv
open PySem PySem.Spec PyProof.Rows L2
/-- a thing that a law hands in: a scalar, or a list, a tuple, a dict that stands -/
def Th (H : Hp) : V → Prop
  | .non => True
  | .bl _ => True
  | .int _ => True
  | .str _ => True
  | .ref a => (∃ xs, H a = some (.lst xs)) ∨ (∃ xs, H a = some (.tup xs)) ∨ ∃ kvs, H a = some (.dK kvs)
  | _ => False
def isB : V → Bool
  | .bl _ => true
  | _ => false
def isI : V → Bool
  | .int _ => true
  | _ => false
/-- a list or a tuple of xs -/
def Sq (H : Hp) (x : V) (xs : List V) : Prop := ∃ a, x = .ref a ∧ (H a = some (.lst xs) ∨ H a = some (.tup xs))
def sqOf (H : Hp) : V → Option (List V)
  | .ref a => match H a with
    | some (.lst xs) => some xs
    | some (.tup xs) => some xs
    | _ => none
  | _ => none
theorem sq_some {H : Hp} {x : V} {xs : List V} (h : sqOf H x = some xs) : Sq H x xs := by
  unfold sqOf at h
  split at h
  · rename_i a
    split at h
    · rename_i ys e; cases h; exact ⟨a, rfl, .inl e⟩
    · rename_i ys e; cases h; exact ⟨a, rfl, .inr e⟩
    · cases h
  · cases h
theorem Sq.of {H : Hp} {x : V} {xs : List V} (h : Sq H x xs) : sqOf H x = some xs := by
  obtain ⟨a, rfl, h | h⟩ := h <;> simp [sqOf, h]
theorem Sq.same {H H' : Hp} {x : V} {xs : List V} (h : Sq H x xs) (s : Same H H') : Sq H' x xs := by
  obtain ⟨a, rfl, h | h⟩ := h
  · exact ⟨a, rfl, .inl (s _ _ h)⟩
  · exact ⟨a, rfl, .inr (s _ _ h)⟩
theorem Sq.th {H : Hp} {x : V} {xs : List V} (h : Sq H x xs) : Th H x := by
  obtain ⟨a, rfl, h | h⟩ := h
  · exact .inl ⟨_, h⟩
  · exact .inr (.inl ⟨_, h⟩)
theorem Th.same {H H' : Hp} {x : V} (h : Th H x) (s : Same H H') : Th H' x := by
  cases x with
  | ref a =>
    rcases h with ⟨xs, h⟩ | ⟨xs, h⟩ | ⟨xs, h⟩
    · exact .inl ⟨xs, s _ _ h⟩
    · exact .inr (.inl ⟨xs, s _ _ h⟩)
    · exact .inr (.inr ⟨xs, s _ _ h⟩)
  | _ => exact h
theorem sqOf_same {H H' : Hp} {x : V} (h : Th H x) (s : Same H H') : sqOf H' x = sqOf H x := by
  cases x with
  | ref a => rcases h with ⟨xs, h⟩ | ⟨xs, h⟩ | ⟨xs, h⟩ <;> simp [sqOf, h, s _ _ h]
  | _ => rfl
section
variable {K : PySem.W.Frag} {H : Hp} {x : V} {Q : VK}
theorem th_ty (h : Th H x) : ∃ t, TyX K H x (.type t) ∧ kitB t "bool" = some (isB x) ∧ kitB t "int" = some (isB x || isI x) ∧ kitB t "list" = some (t == "list") ∧ kitB t "tuple" = some (t == "tuple") ∧ ((t == "list") || (t == "tuple")) = (sqOf H x).isSome := by
  cases x with
  | non => exact ⟨_, .base .non, (by decide +kernel : kitB "NoneType" "bool" = some false), (by decide +kernel : kitB "NoneType" "int" = some false), by decide +kernel, by decide +kernel, (by decide +kernel : (("NoneType" == "list") || ("NoneType" == "tuple")) = false)⟩
  | bl b => exact ⟨_, .base (.bl b), (by decide +kernel : kitB "bool" "bool" = some true), (by decide +kernel : kitB "bool" "int" = some true), by decide +kernel, by decide +kernel, (by decide +kernel : (("bool" == "list") || ("bool" == "tuple")) = false)⟩
  | int i => exact ⟨_, .base (.int i), (by decide +kernel : kitB "int" "bool" = some false), (by decide +kernel : kitB "int" "int" = some true), by decide +kernel, by decide +kernel, (by decide +kernel : (("int" == "list") || ("int" == "tuple")) = false)⟩
  | str i => exact ⟨_, .base (.str i), (by decide +kernel : kitB "str" "bool" = some false), (by decide +kernel : kitB "str" "int" = some false), by decide +kernel, by decide +kernel, (by decide +kernel : (("str" == "list") || ("str" == "tuple")) = false)⟩
  | ref a =>
    rcases h with ⟨xs, h⟩ | ⟨xs, h⟩ | ⟨xs, h⟩
    · exact ⟨_, .base (.lst h), (by decide +kernel : kitB "list" "bool" = some false), (by decide +kernel : kitB "list" "int" = some false), by decide +kernel, by decide +kernel, by simp [sqOf, h]⟩
    · exact ⟨_, .base (.tup h), (by decide +kernel : kitB "tuple" "bool" = some false), (by decide +kernel : kitB "tuple" "int" = some false), by decide +kernel, by decide +kernel, by simp [sqOf, h]⟩
    · exact ⟨_, .base (.dK h), (by decide +kernel : kitB "dict" "bool" = some false), (by decide +kernel : kitB "dict" "int" = some false), by decide +kernel, by decide +kernel, by simp [sqOf, h]⟩
  | byt _ => exact h.elim
  | flt _ => exact h.elim
  | ty _ => exact h.elim
theorem r_isB (h : Th H x) (q : Q (.bl (isB x)) H) : rIsi K [x, .ty "bool"] H Q := by
  obtain ⟨t, h1, h2, _⟩ := th_ty (K := K) h
  exact ⟨x, _, _, _, _, rfl, .ty _, h1, kit_ty h2, q⟩
theorem r_isI (h : Th H x) (q : Q (.bl (isB x || isI x)) H) : rIsi K [x, .ty "int"] H Q := by
  obtain ⟨t, h1, _, h2, _⟩ := th_ty (K := K) h
  exact ⟨x, _, _, _, _, rfl, .ty _, h1, kit_ty h2, q⟩
theorem r_isS {p : Addr} (hp : H p = some (.tup [.ty "list", .ty "tuple"])) (h : Th H x) (q : Q (.bl (sqOf H x).isSome) H) : rIsiT K [x, .ref p] H Q := by
  obtain ⟨t, h1, _, _, h2, h3, h4⟩ := th_ty (K := K) h
  refine ⟨x, p, _, _, _, (sqOf H x).isSome, rfl, hp, .cons (.ty _) (.cons (.ty _) .nil), h1, ?_, q⟩
  refine kitAny_cons (kit_ty h2) (fun e => ?_) fun e => by rw [← h4, e]; rfl
  refine kitAny_cons (kit_ty h3) (fun e2 => ?_) fun e2 => by rw [← h4, e2, Bool.or_true]
  rw [kitAny_nil, ← h4, e, e2]; rfl
theorem r_rfl {a : V} {P : Prop} (q : P) : a = a ∧ P := ⟨rfl, q⟩
end
/-- is_whole's answer -/
def loOk : V → Int → Bool
  | .int l, i => decide (l ≤ i)
  | _, _ => true
def hiOk : V → Int → Bool
  | .int l, i => decide (i ≤ l)
  | _, _ => true
def wholeV : V → V → V → Bool
  | .int i, lo, hi => loOk lo i && hiOk hi i
  | _, _, _ => false
def Bd (x : V) : Prop := x = .non ∨ ∃ i, x = .int i
theorem wholeV_int {x : V} {l h : Int} : wholeV x (.int l) (.int h) = true → ∃ i, x = .int i ∧ l ≤ i ∧ i ≤ h := by
  intro q
  cases x with
  | int i => simp [wholeV, loOk, hiOk] at q; exact ⟨i, rfl, q⟩
  | _ => cases q
end Jv
namespace Jv
open PySem PySem.Spec PyProof.Rows L2
theorem wholeV_lo0 {i a : Int} {hi : V} (h : i < a) : wholeV (.int i) (.int a) hi = false := by
  show (decide (a ≤ i) && hiOk hi i) = false
  rw [decide_eq_false (by omega), Bool.false_and]
theorem wholeV_lo1 {i a : Int} {hi : V} (h : ¬ i < a) : wholeV (.int i) (.int a) hi = hiOk hi i := by
  show (decide (a ≤ i) && hiOk hi i) = _
  rw [decide_eq_true (by omega), Bool.true_and]
theorem r_dec1 {A B p : Prop} {_ : Decidable p} (h : p) (q : A) : if decide p = true then A else B := r_true (decide_eq_true h) q
theorem r_dec0 {A B p : Prop} {_ : Decidable p} (h : ¬ p) (q : B) : if decide p = true then A else B := r_false (decide_eq_false h) q
end Jv

/-! ### walks over a list or a tuple; comprehensions whose elements are told by a function -/
namespace Jv
open PySem PySem.Spec PyProof.Rows L2
theorem piOr {X : Cx} {tg it : Expr} {w1 w2 : TI} (h : PI X tg it w1) (h' : PI X tg it w2) : PI X tg it (fun σ H R => w1 σ H R ∨ w2 σ H R) := ⟨fun pins s σ H R I q => q.elim (h.run pins s σ H R I) (h'.run pins s σ H R I)⟩
section
variable {K : PySem.W.Frag} {σ : L2.St} {H : Hp} {te : TE} {Q : VK} {xs : List V} {j i : Nat} {x : V}
theorem wipe1 {v : Option V} : wipe ((σ.set j none).set j v) [j] = wipe σ [j] := by
  show ((σ.set j none).set j v).set j none = σ.set j none
  rw [List.set_set, List.set_set]
theorem take_more {α : Type} {l : List α} {i : Nat} {x : α} (h : l[i]? = some x) : l.take (i + 1) = l.take i ++ [x] := by
  rw [List.take_add_one, h]; rfl
theorem lcF {J : It} {G : Hp → Prop} (w : Walk J xs.length G (YAt xs)) (hG : ∀ H', Same H H' → G H') (f : V → V) (few : xs.length ≤ 1000)
    (hs : ∀ v H1, v ∈ xs → Same H H1 → ∀ P : VK, (∀ H2, Same H1 H2 → P (f v) H2) → te ((σ.set j none).set j (some v)) H1 P)
    (hd : ∀ D H1, Same H H1 → H D = none → H1 D = some (.lst (xs.map f)) → Q (.ref D) H1) : ∀ D, H D = none → ∃ W : Nat → Nat → Hp → Prop, (∃ m, W 0 m (upd H D (.lst []))) ∧ ∀ i m H, W i m H →
      (J.stop i H ∧ Q (.ref D) H) ∨ (J.go i H ∧ ∃ Nx : Hp → Prop, (∀ H', Nx H' → ∃ m', m' < m ∧ W (i + 1) m' H') ∧ ∀ x H', J.yld i H x H' → gName j x (wipe σ [j]) H' fun σ2 H2 => wipe σ2 [j] = wipe σ [j] ∧ tYes σ2 H2 fun b H3 =>
        if b = true then te σ2 H3 fun y H4 => ∃ acc, H4 D = some (.lst acc) ∧ acc.length < sizeLine ∧ Nx (upd H4 D (.lst (acc ++ [y]))) else Nx H3) := by
  intro D hD
  refine lc_it w (fun i H1 => Same H H1 ∧ H1 D = some (.lst ((xs.take i).map f))) ⟨same_new hD, upd_same⟩ (fun i H1 _ h => hG H1 h.1) ?_ ?_
  · rintro i x H1 H2 hi ⟨s1, e1⟩ ⟨rfl, hx⟩
    refine ⟨wipe1, ?_⟩
    refine r_yes ?_
    refine r_true (c := true) rfl ?_
    refine hs x _ (List.mem_of_getElem? hx) s1 _ fun H3 s3 => ⟨_, s3 _ _ e1, ?_, ?_, ?_⟩
    · rw [List.length_map, List.length_take]; exact small_lt (by omega)
    · intro b o e; exact kpO (s3 _ _ (s1 b o e)) (ne_of_none e hD)
    · rw [upd_same, take_more hx, List.map_append]; rfl
  · rintro H1 ⟨s1, e1⟩
    rw [List.take_length] at e1
    exact hd D H1 s1 hD e1
/-- over a name that holds a list | a tuple | either -/
theorem lcL {a : Addr} (hv : σ[i]? = some (some (.ref a))) (hx : SqL K H a xs) (f : V → V) (few : xs.length ≤ 1000)
    (hs : ∀ v H1, v ∈ xs → Same H H1 → ∀ P : VK, (∀ H2, Same H1 H2 → P (f v) H2) → te ((σ.set j none).set j (some v)) H1 P)
    (hd : ∀ D H1, Same H H1 → H D = none → H1 D = some (.lst (xs.map f)) → Q (.ref D) H1) : tLc (iList K (tVar i)) (gName j) tYes te [j] σ H Q :=
  ⟨_, hv, a, rfl, ⟨xs, hx⟩, lcF walk_list (fun H' s => s.seq hx) f few hs hd⟩
theorem lcT {a : Addr} (hv : σ[i]? = some (some (.ref a))) (hx : SqT K H a xs) (f : V → V) (few : xs.length ≤ 1000)
    (hs : ∀ v H1, v ∈ xs → Same H H1 → ∀ P : VK, (∀ H2, Same H1 H2 → P (f v) H2) → te ((σ.set j none).set j (some v)) H1 P)
    (hd : ∀ D H1, Same H H1 → H D = none → H1 D = some (.lst (xs.map f)) → Q (.ref D) H1) : tLc (iTup K (tVar i)) (gName j) tYes te [j] σ H Q :=
  ⟨_, hv, a, rfl, ⟨xs, hx⟩, lcF walk_tup (fun H' s => Jv.Same.sqT s hx) f few hs hd⟩
theorem lcS (hv : σ[i]? = some (some x)) (hx : Sq H x xs) (f : V → V) (few : xs.length ≤ 1000)
    (hs : ∀ v H1, v ∈ xs → Same H H1 → ∀ P : VK, (∀ H2, Same H1 H2 → P (f v) H2) → te ((σ.set j none).set j (some v)) H1 P)
    (hd : ∀ D H1, Same H H1 → H D = none → H1 D = some (.lst (xs.map f)) → Q (.ref D) H1) : tLc (fun σ H R => iList K (tVar i) σ H R ∨ iTup K (tVar i) σ H R) (gName j) tYes te [j] σ H Q := by
  obtain ⟨a, rfl, h | h⟩ := hx
  · exact .inl (lcL hv (sqL_at h) f few hs hd)
  · exact .inr (lcT hv (sqT_at h) f few hs hd)
theorem r_all {D : Addr} {f : V → Bool} (h : H D = some (.lst (xs.map fun v => V.bl (f v)))) (q : Q (.bl (xs.all f)) H) : rAll K [.ref D] H Q := by
  refine ⟨D, xs.map f, rfl, sqL_at (by rw [h, List.map_map]; rfl), ?_⟩
  rw [List.all_map]; exact q
theorem Sq.len (h : Sq H x xs) (q : Q (.int xs.length) H) : rLenK K [x] H Q := by
  obtain ⟨a, rfl, h | h⟩ := h
  · exact r_len (.inl (sqL_at h)) q
  · exact r_len (.inr (sqT_at h)) q
theorem Sq.ix (h : Sq H x xs) {k : Int} {v : V} (e : atI xs k = some v) (q : Q v H) : rIx K x (.int k) H Q := by
  obtain ⟨a, rfl, h | h⟩ := h
  · exact .inl (r_ixL (sqL_at h) e q)
  · exact .inr (.inl (r_ixT (sqT_at h) e q))
end
end Jv

/-! ### sorted(t) of a tuple of ints -/
namespace JvS
open PySem PySem.Spec PyProof.Rows L2 SrtO
section
variable {P : Program} {w : World} {A : Around} {E : Value → Shared → Prop} {s : Shared}
/-- the list that collect makes -/
abbrev colH (h : Heap) (vs : List Value) : Heap := (h.push (seqObj "list" #[] 0)).update h.objs.size (Obj.mapSeq (· ++ vs.toArray))
theorem collect_tup {l : Addr} {vs : List Value} {Q : List Value → Shared → Prop} (hl : s.heap.IsTuple l vs.toArray) (h : Q vs { s with heap := colH s.heap vs }) (hsz : vs.length ≤ sizeLine) :
    wpAny (model P w) A (collect (.ref l)) Q E s := by
  obtain ⟨o, ho, hc, n, hd⟩ := id hl
  have ho2 : (s.heap.push (seqObj "list" #[] 0)).get? l = some o := Heap.get?_push_of_some _ ho
  have new : (s.heap.push (seqObj "list" #[] 0)).get? s.heap.objs.size = some (seqObj "list" #[] 0) := Heap.get?_push_size _ rfl
  unfold collect
  refine wpAny_bind (wpAny_runValue (codeAny_builtin entry_proto_collect' (show wpAny _ _ (do again (.builtin "list.__iadd__" ⟨[← newList [], .ref l], []⟩)) _ _ s from
    wpAny_bind (wpAny_newList (wpAny_pure ⟨Code.quiet_builtin _ (by decide +kernel), codeAny_builtin entry_list_iadd' ?_⟩)))))
  show wpAny _ _ (Builtin.List.listExtendWith (.ref s.heap.objs.size) (.ref l) (.ref s.heap.objs.size)) _ _ { s with heap := s.heap.push (seqObj "list" #[] 0) }
  unfold Builtin.List.listExtendWith
  refine wpAny_bind (wpAny_typeOf (T := "tuple") ⟨o, ho2, hc⟩ ?_)
  rw [if_pos (by have e : (Value.type "tuple" == Value.type "tuple") = true := rfl
                 rw [e]; simp)]
  refine wpAny_bind (listItems_at ho2 hd (wpAny_bind (listItems_at (xs := #[]) (n := 0) new rfl ?_)))
  rw [if_neg (by simp)]
  refine wpAny_bind (listUpdate_at (xs := #[]) (n := 0) new rfl (wpAny_pure ?_) (Nat.zero_le _) (by show (#[] ++ vs.toArray).size ≤ sizeLine + 1; simp; omega))
  show wpAny (model P w) A (do
      let o ← load s.heap.objs.size
      match o.data with
      | .seq ys _ => pure ys.toList
      | _ => unsupported "internal:collect") Q E { s with heap := colH s.heap vs }
  refine wpAny_bind (wpAny_load (get?_update_seq new _) (show wpAny _ _ (pure ((#[] : Array Value) ++ vs.toArray).toList) Q E _ from ?_))
  rw [show ((#[] : Array Value) ++ vs.toArray).toList = vs by simp]
  exact wpAny_pure h
theorem sorted_tup {l : Addr} {vs : List Value} {ltv : Value → Value → Bool} {Q : Value → Shared → Prop} (O : Swo ltv) (hl : s.heap.IsTuple l vs.toArray) (hz : vs.length ≤ sizeLine)
    (hS : 2 ≤ vs.length → ∀ (h₁ : Heap) (a : Addr), h₁.get? a = some (seqObj "list" vs.toArray 0) → (∀ b o, s.heap.get? b = some o → b ≠ a ∧ h₁.get? b = some o) → SortableO P w A.in1.in1 { s with heap := h₁ } a vs ltv)
    (h : ∀ out : List Value, Srtd ltv out → Stb ltv out vs → Q (.ref (s.heap.objs.size + 1)) { s with heap := sortedAll s.heap vs out.toArray }) :
    wpAny (model P w) A (call (.builtin "sorted") [.ref l]) Q E s := by
  refine Calls.call_function_entry kind_sorted plain_sorted entry_sorted (args_sorted1 _) ?_
  unfold Builtin.«sorted»
  refine wpAny_bind (m := checkCount "sorted" 1 1 _) (wpAny_pure (wpAny_bind (collect_tup hl (wpAny_bind (wpAny_newList ?_ hz)) hz)))
  have size1 : (colH s.heap vs).objs.size = s.heap.objs.size + 1 := by rw [Heap.size_update, size_push']
  have at2 : ((colH s.heap vs).push (seqObj "list" vs.toArray 0)).get? (s.heap.objs.size + 1) = some (seqObj "list" vs.toArray 0) := by
    rw [← size1]; exact Heap.get?_push_size _ rfl
  have old : ∀ b o, s.heap.get? b = some o → b ≠ s.heap.objs.size + 1 ∧ ((colH s.heap vs).push (seqObj "list" vs.toArray 0)).get? b = some o := fun b o q => by
    have lt := Heap.lt_size q
    refine ⟨Nat.ne_of_lt (Nat.lt_succ_of_lt lt), Heap.get?_push_of_some _ ?_⟩
    rw [Heap.get?_update_ne _ _ _ _ (Nat.ne_of_lt lt)]
    exact Heap.get?_push_of_some _ q
  show wpAny _ _ _ _ _ { s with heap := (colH s.heap vs).push (seqObj "list" vs.toArray 0) }
  rw [size1]
  refine wpAny_bind (wpAny_holding (wpAny_call_entry slot_list_sort ⟨_, at2, rfl⟩ entry_list_sort (list_sort_ord O at2 hz (fun h2 => hS h2 _ _ at2 old) fun out a b => ⟨_, rfl, wpAny_pure ⟨_, rfl, h out a b⟩⟩) (args_list_sort _)))
end
end JvS
namespace Jv
open PySem PySem.Spec PyProof.Rows L2
section
variable {X : Cx}
/-- sorted(x), x a list or a tuple of ints -/
def rSortIT (K : PySem.W.Frag) : List V → Hp → VK → Prop := fun vs H Q => ∃ (a : Addr) (ns : List Int), vs = [V.ref a] ∧ (SqL K H a (ns.map V.int) ∨ SqT K H a (ns.map V.int)) ∧
  ∀ (ns' : List Int) (p : Addr), ns'.Perm ns → ns'.Pairwise (· ≤ ·) → H p = none → Q (.ref p) (upd H p (.lst (ns'.map V.int)))
theorem cr_sortIT : CallR X (.builtin "sorted") (rSortIT X.K) := by
  intro pins s σ H vs us Q I r h
  obtain ⟨a, ns, rfl, hs | hs, q⟩ := h
  · exact cr_sortedI pins s σ H _ us Q I r ⟨a, ns, rfl, hs, q⟩
  · obtain ⟨its, rv, ht, hz⟩ := I.tuple hs
    rw [Vals.ref1 r]
    have hi := rv.ints
    rw [List.length_map] at hz
    have hz2 : its.length ≤ sizeLine := by rw [← rv.length, List.length_map]; exact hz
    refine JvS.sorted_tup SrtO.swo_int (show s.heap.IsTuple a its.toArray from ht) hz2 (fun h2 _ _ _ _ => SrtO.ints_sortable hi h2) fun out h1 h2 => ?_
    obtain ⟨k1, k2, k3⟩ := SrtO.ints_out hi h1 h2
    obtain ⟨ep, he⟩ := PyProof.Rows.sortedAll_at s.heap its out.toArray
    refine ⟨.ref _, upd H (s.heap.objs.size + 1) (.lst ((out.map SrtO.iv).map V.int)), I.laid (t' := s.toks) (fun _ _ => PyProof.Rows.sortedAll_old) (Nat.le_succ _) ⟨?_, out, ep, vals_of_ints k1, he⟩, rfl, q _ _ k2 k3 (I.hok.fresh (Nat.le_succ _))⟩
    rw [List.length_map, k2.length_eq]; exact hz
end
/-! ### data of ints -/
theorem canAll_ints : ∀ ns : List Int, PyData.canLayAll0 (ns.map PyData.int) = true
  | [] => by simp [PyData.canLayAll0]
  | a :: r => by simp [PyData.canLayAll0, PyData.canLay0, canAll_ints r]
theorem depAll_ints : ∀ ns : List Int, PyData.depthAll (ns.map PyData.int) = 0
  | [] => by simp [PyData.depthAll]
  | a :: r => by simp [PyData.depthAll, PyData.depth, depAll_ints r]
theorem shapedL (ns : List Int) : SeqAt.shaped (.list (ns.map .int)) = true := by simp [SeqAt.shaped, PyData.canLay0, PyData.depth, canAll_ints, depAll_ints]
theorem shapedT (ns : List Int) : SeqAt.shaped (.tuple (ns.map .int)) = true := by simp [SeqAt.shaped, PyData.canLay0, PyData.depth, canAll_ints, depAll_ints]
theorem eqvAll_ints : ∀ a b : List Int, PyData.eqvAll (a.map .int) (b.map .int) = decide (a = b)
  | [], [] => by simp [PyData.eqvAll]
  | [], _ :: _ => by simp [PyData.eqvAll]
  | _ :: _, [] => by simp [PyData.eqvAll]
  | x :: a, y :: b => by
    simp only [List.map_cons, PyData.eqvAll, PyData.eqv, eqvAll_ints a b]
    by_cases h : x = y <;> by_cases g : a = b <;> simp [h, g]
theorem eqvL (a b : List Int) : PyData.eqv (.list (a.map .int)) (.list (b.map .int)) = decide (a = b) := by rw [PyData.eqv, eqvAll_ints]
theorem eqvT (a b : List Int) : PyData.eqv (.tuple (a.map .int)) (.tuple (b.map .int)) = decide (a = b) := by rw [PyData.eqv, eqvAll_ints]
section
variable {K : PySem.W.Frag} {H : Hp}
theorem dpAll_ints : ∀ ns : List Int, DpAll K H (ns.map V.int) (ns.map PyData.int)
  | [] => .nil
  | a :: r => .cons (.int a) (dpAll_ints r)
theorem dpL {a : Addr} {ns : List Int} (h : SqL K H a (ns.map V.int)) : Dp K H (.ref a) (.list (ns.map .int)) := .lst h (dpAll_ints ns)
theorem dpT {a : Addr} {ns : List Int} (h : SqT K H a (ns.map V.int)) : Dp K H (.ref a) (.tuple (ns.map .int)) := .tup h (dpAll_ints ns)
end
end Jv

/-! ### kinds, lots, orders -/
namespace Jv
open PySem PySem.Spec PyProof.Rows L2
def intsV : List V → Option (List Int)
  | [] => some []
  | .int i :: r => (intsV r).map (i :: ·)
  | _ :: _ => none
theorem iv_map : ∀ ns : List Int, intsV (ns.map V.int) = some ns
  | [] => rfl
  | a :: r => by simp [intsV, iv_map r]
theorem iv_of : ∀ {xs : List V} {ns : List Int}, intsV xs = some ns → xs = ns.map V.int
  | [], ns, h => by cases h; rfl
  | .int i :: r, ns, h => by
    cases e : intsV r with
    | none => simp [intsV, e] at h
    | some m => simp [intsV, e] at h; subst h; rw [iv_of e]; rfl
  | .non :: _, _, h => by cases h
  | .bl _ :: _, _, h => by cases h
  | .str _ :: _, _, h => by cases h
  | .byt _ :: _, _, h => by cases h
  | .flt _ :: _, _, h => by cases h
  | .ref _ :: _, _, h => by cases h
  | .ty _ :: _, _, h => by cases h
/-- what a sequence's items must be for the program to look at them -/
def ThS (H : Hp) (x : V) : Prop := Th H x ∧ ∀ xs, Sq H x xs → xs.length ≤ 60 ∧ ∀ v ∈ xs, Th H v
theorem ThS.same {H H' : Hp} {x : V} (h : ThS H x) (s : Same H H') : ThS H' x := ⟨h.1.same s, fun xs q => by
  have e := q.of
  rw [sqOf_same h.1 s] at e
  obtain ⟨a, b⟩ := h.2 xs (sq_some e)
  exact ⟨a, fun v m => (b v m).same s⟩⟩
def kindsB (H : Hp) (x : V) (k : Int) : Bool := match sqOf H x with
  | some xs => xs.all fun v => wholeV v (.int 0) (.int (k - 1))
  | none => false
def inK (k : Int) (ns : List Int) : Prop := ∀ n ∈ ns, 0 ≤ n ∧ n ≤ k - 1
theorem whole_all {k : Int} : ∀ {xs : List V}, (xs.all fun v => wholeV v (.int 0) (.int (k - 1))) = true → ∃ ns, xs = ns.map V.int ∧ inK k ns
  | [], _ => ⟨[], rfl, fun _ h => by cases h⟩
  | x :: r, h => by
    rw [List.all_cons, Bool.and_eq_true] at h
    obtain ⟨i, rfl, h1, h2⟩ := wholeV_int h.1
    obtain ⟨ns, rfl, h3⟩ := whole_all h.2
    refine ⟨i :: ns, rfl, fun n hn => ?_⟩
    rcases List.mem_cons.mp hn with rfl | hn
    · exact ⟨h1, h2⟩
    · exact h3 n hn
theorem all_whole {k : Int} {ns : List Int} (h : inK k ns) : ((ns.map V.int).all fun v => wholeV v (.int 0) (.int (k - 1))) = true := by
  rw [List.all_map, List.all_eq_true]
  intro n hn
  obtain ⟨a, b⟩ := h n hn
  show (decide (0 ≤ n) && decide (n ≤ k - 1)) = true
  rw [decide_eq_true a, decide_eq_true b]; rfl
instance {k : Int} {ns : List Int} : Decidable (inK k ns) := inferInstanceAs (Decidable (∀ n ∈ ns, _))
theorem whole_all_iff {k : Int} {ns : List Int} : ((ns.map V.int).all fun v => wholeV v (.int 0) (.int (k - 1))) = decide (inK k ns) := by
  by_cases h : inK k ns
  · rw [all_whole h, decide_eq_true h]
  · rw [decide_eq_false h]
    cases e : (ns.map V.int).all fun v => wholeV v (.int 0) (.int (k - 1)) with
    | false => rfl
    | true =>
      obtain ⟨ms, e2, h2⟩ := whole_all e
      have e3 : ns = ms := by have q := iv_map ns; rw [e2, iv_map] at q; cases q; rfl
      exact absurd (e3 ▸ h2) h
theorem sorted_ext : ∀ {a b : List Int}, a.Pairwise (· < ·) → b.Pairwise (· < ·) → (∀ n, n ∈ a ↔ n ∈ b) → a = b
  | [], [], _, _, _ => rfl
  | [], y :: _, _, _, h => absurd ((h y).mpr List.mem_cons_self) (by simp)
  | x :: _, [], _, _, h => absurd ((h x).mp List.mem_cons_self) (by simp)
  | x :: a, y :: b, ha, hb, h => by
    have ha' := List.pairwise_cons.mp ha
    have hb' := List.pairwise_cons.mp hb
    have e : x = y := by
      rcases List.mem_cons.mp ((h x).mp List.mem_cons_self) with e | m1
      · exact e
      · rcases List.mem_cons.mp ((h y).mpr List.mem_cons_self) with e | m2
        · exact e.symm
        · have q1 := hb'.1 x m1
          have q2 := ha'.1 y m2
          omega
    subst e
    congr 1
    refine sorted_ext ha'.2 hb'.2 fun n => ⟨fun m => ?_, fun m => ?_⟩
    · rcases List.mem_cons.mp ((h n).mp (List.mem_cons_of_mem _ m)) with e | q
      · subst e; exact absurd (ha'.1 n m) (by omega)
      · exact q
    · rcases List.mem_cons.mp ((h n).mpr (List.mem_cons_of_mem _ m)) with e | q
      · subst e; exact absurd (hb'.1 n m) (by omega)
      · exact q
def lotP (k : Int) (ns : List Int) : Prop := inK k ns ∧ 0 < ns.length ∧ ns.Pairwise (· < ·)
instance {k : Int} {ns : List Int} : Decidable (lotP k ns) := inferInstanceAs (Decidable (_ ∧ _))
def lotV (H : Hp) (x : V) (k : Int) : Bool := match sqOf H x with
  | some xs => match intsV xs with
    | some ns => decide (lotP k ns)
    | none => false
  | none => false
theorem set_eq {ns ms : List Int} (h1 : ms.Pairwise (· < ·)) (h2 : ∀ k : Int, k ∈ ms ↔ decide (k ∈ ns) = true) : (ns = ms) ↔ ns.Pairwise (· < ·) :=
  ⟨fun e => e ▸ h1, fun h => sorted_ext h h1 fun n => by rw [h2 n, decide_eq_true_iff]⟩
def orderP (k : Int) (ns : List Int) : Prop := inK k ns ∧ ns.Perm ((List.range k.toNat).map fun (i : Nat) => (i : Int))
instance {k : Int} {ns : List Int} : Decidable (orderP k ns) := inferInstanceAs (Decidable (_ ∧ _))
theorem range_sorted (n : Nat) : ((List.range n).map fun (i : Nat) => (i : Int)).Pairwise (· ≤ ·) := by
  rw [List.pairwise_map]
  exact List.pairwise_lt_range.imp fun h => by omega
theorem sorted_perm {a b : List Int} (ha : a.Pairwise (· ≤ ·)) (hb : b.Pairwise (· ≤ ·)) (h : a.Perm b) : a = b :=
  List.Perm.eq_of_pairwise (fun x y _ _ h1 h2 => by omega) ha hb h
def orderV (H : Hp) (x : V) (k : Int) : Bool := match sqOf H x with
  | some xs => match intsV xs with
    | some ns => decide (orderP k ns)
    | none => false
  | none => false
end Jv
namespace Jv
open PySem PySem.Spec PyProof.Rows L2
section
variable {H : Hp} {x : V} {k : Int} {ns : List Int}
theorem lotV_of (e : sqOf H x = some (ns.map V.int)) : lotV H x k = decide (lotP k ns) := by
  unfold lotV; rw [e]; dsimp only; rw [iv_map]
theorem orderV_of (e : sqOf H x = some (ns.map V.int)) : orderV H x k = decide (orderP k ns) := by
  unfold orderV; rw [e]; dsimp only; rw [iv_map]
theorem kindsB_of (e : sqOf H x = some (ns.map V.int)) : kindsB H x k = decide (inK k ns) := by
  unfold kindsB; rw [e]; exact whole_all_iff
theorem kindsB_true (h : kindsB H x k = true) : ∃ ns, sqOf H x = some (ns.map V.int) ∧ inK k ns := by
  unfold kindsB at h
  cases e : sqOf H x with
  | none => rw [e] at h; cases h
  | some xs =>
    rw [e] at h
    obtain ⟨ns, rfl, q⟩ := whole_all h
    exact ⟨ns, rfl, q⟩
theorem lotV_false (h : kindsB H x k = false) : lotV H x k = false := by
  cases e : sqOf H x with
  | none => unfold lotV; rw [e]
  | some xs =>
    cases e2 : intsV xs with
    | none => unfold lotV; rw [e]; dsimp only; rw [e2]
    | some ns =>
      obtain rfl := iv_of e2
      rw [lotV_of e, decide_eq_false]
      rintro ⟨h1, _⟩
      rw [kindsB_of e, decide_eq_true h1] at h; cases h
theorem orderV_false (h : kindsB H x k = false) : orderV H x k = false := by
  cases e : sqOf H x with
  | none => unfold orderV; rw [e]
  | some xs =>
    cases e2 : intsV xs with
    | none => unfold orderV; rw [e]; dsimp only; rw [e2]
    | some ns =>
      obtain rfl := iv_of e2
      rw [orderV_of e, decide_eq_false]
      rintro ⟨h1, _⟩
      rw [kindsB_of e, decide_eq_true h1] at h; cases h
theorem lotV_true (h : lotV H x k = true) : ∃ ns, sqOf H x = some (ns.map V.int) ∧ lotP k ns := by
  cases e : sqOf H x with
  | none => unfold lotV at h; rw [e] at h; cases h
  | some xs =>
    cases e2 : intsV xs with
    | none => unfold lotV at h; rw [e] at h; dsimp only at h; rw [e2] at h; cases h
    | some ns =>
      obtain rfl := iv_of e2
      rw [lotV_of e] at h
      exact ⟨ns, rfl, of_decide_eq_true h⟩
theorem Sq.or {K : PySem.W.Frag} {a : Addr} {xs : List V} (h : H a = some (.lst xs) ∨ H a = some (.tup xs)) : SqL K H a xs ∨ SqT K H a xs := h.elim (fun h => .inl (sqL_at h)) fun h => .inr (sqT_at h)
end
end Jv
namespace Jv
open PySem PySem.Spec PyProof.Rows L2
theorem rgV0 {k : Int} : rgV 0 k = ((List.range k.toNat).map fun (i : Nat) => (i : Int)).map V.int := by
  unfold rgV
  rw [List.map_map, Int.sub_zero]
  refine List.map_congr_left fun i _ => ?_
  show V.int (0 + (i : Int)) = V.int i
  rw [Int.zero_add]
end Jv

/-! ### pairs of two ranges; data as lists of pairs -/
namespace Jv
open PySem PySem.Spec PyProof.Rows L2
/-- references to tuples of two ints that stand -/
def Tups (H : Hp) (refs : List V) (prs : List (Int × Int)) : Prop := Paired (fun v (pr : Int × Int) => ∃ t, v = V.ref t ∧ H t = some (.tup [.int pr.1, .int pr.2])) refs prs
theorem Paired.mono' {α β : Type} {F G : α → β → Prop} (h : ∀ a b, F a b → G a b) : ∀ {xs : List α} {ys : List β}, Paired F xs ys → Paired G xs ys
  | _, _, .nil => .nil
  | _, _, .cons r t => .cons (h _ _ r) (Paired.mono' h t)
theorem Paired.snoc {α β : Type} {F : α → β → Prop} {a : α} {b : β} (h : F a b) : ∀ {xs : List α} {ys : List β}, Paired F xs ys → Paired F (xs ++ [a]) (ys ++ [b])
  | _, _, .nil => .cons h .nil
  | _, _, .cons r t => .cons r (Paired.snoc h t)
theorem Tups.same {H H' : Hp} {refs : List V} {prs : List (Int × Int)} (h : Tups H refs prs) (s : Same H H') : Tups H' refs prs := Paired.mono' (fun _ _ ⟨t, e, q⟩ => ⟨t, e, s _ _ q⟩) h
theorem Tups.upd {H : Hp} {D : Addr} {o : HO} {refs : List V} {prs : List (Int × Int)} (h : Tups H refs prs) (n : ∀ xs, H D ≠ some (.tup xs)) : Tups (L2.upd H D o) refs prs :=
  Paired.mono' (fun _ _ ⟨t, e, q⟩ => ⟨t, e, by rw [upd_ne]; exact q; intro z; rw [z] at q; exact n _ q⟩) h
def pairsTo (q i j : Nat) : List (Int × Int) := ((List.range i).flatMap fun (e : Nat) => (List.range q).map fun (w : Nat) => ((e : Int), (w : Int))) ++ (List.range j).map fun (w : Nat) => ((i : Int), (w : Int))
def prs (p q : Nat) : List (Int × Int) := pairsTo q p 0
theorem pairsTo_next (q i : Nat) : pairsTo q i q = pairsTo q (i + 1) 0 := by
  unfold pairsTo
  rw [List.range_succ, List.flatMap_append]
  simp
theorem pairsTo_more (q i j : Nat) : pairsTo q i (j + 1) = pairsTo q i j ++ [((i : Int), (j : Int))] := by
  unfold pairsTo
  rw [List.range_succ (n := j), List.map_append, List.append_assoc]; rfl
theorem pairsTo_len (q i j : Nat) : (pairsTo q i j).length = i * q + j := by
  unfold pairsTo
  rw [List.length_append, List.length_map, List.length_range]
  congr 1
  induction i with
  | zero => simp
  | succ i ih => rw [List.range_succ, List.flatMap_append, List.length_append, ih]; simp [Nat.succ_mul]
section
variable {σ : L2.St} {H : Hp} {ta tb : TA} {te : TE} {Q : VK} {a b p q : Nat}
theorem lc2R (hp : p ≤ 20) (hq : q ≤ 20) (w1 : ∀ x, wipe ((wipe σ [a, b]).set a (some x)) [a, b] = wipe σ [a, b])
    (w2 : ∀ x y, wipe ((wipe ((wipe σ [a, b]).set a (some x)) [b]).set b (some y)) [b] = wipe ((wipe σ [a, b]).set a (some x)) [b])
    (hta : ∀ P : List V → Hp → Prop, P [.int p] H → ta σ H P)
    (htb : ∀ (i : Nat) H1, i < p → Same H H1 → ∀ P : List V → Hp → Prop, P [.int q] H1 → tb ((wipe σ [a, b]).set a (some (.int i))) H1 P)
    (hte : ∀ (i j : Nat) H1, i < p → j < q → Same H H1 → ∀ P : VK, (∀ t H2, Same H1 H2 → H1 t = none → H2 t = some (.tup [.int i, .int j]) → P (.ref t) H2) → te ((wipe ((wipe σ [a, b]).set a (some (.int i))) [b]).set b (some (.int j))) H1 P)
    (hd : ∀ D refs H1, Same H H1 → H D = none → H1 D = some (.lst refs) → Tups H1 refs (prs p q) → Q (.ref D) H1) :
    tLc2 (iRng1 ta) (gName a) tYes (iRng1 tb) (gName b) tYes te [a, b] [b] σ H Q := by
  refine hta _ ⟨p, rfl, by omega, by omega, fun D hD => ?_⟩
  have key : ∀ (i j : Nat) H1, (∃ refs, Same H H1 ∧ H1 D = some (.lst refs) ∧ Tups H1 refs (pairsTo q i j)) → ∃ refs, Same H H1 ∧ H1 D = some (.lst refs) ∧ Tups H1 refs (pairsTo q i j) := fun _ _ _ h => h
  refine ⟨fun i m H1 => m = p - i ∧ i ≤ p ∧ ∃ refs, Same H H1 ∧ H1 D = some (.lst refs) ∧ Tups H1 refs (pairsTo q i 0), ⟨p, by omega, by omega, [], same_new hD, upd_same, .nil⟩, ?_⟩
  rintro i m H1 ⟨rfl, hi, refs, s1, e1, t1⟩
  by_cases lt : i < p
  · refine .inr ⟨by show i < (p : Int).toNat; omega, fun H' => ∃ refs, Same H H' ∧ H' D = some (.lst refs) ∧ Tups H' refs (pairsTo q (i + 1) 0), fun H' h => ⟨p - (i + 1), by omega, rfl, lt, h⟩, ?_⟩
    rintro x H2 ⟨rfl, rfl⟩
    rw [Int.zero_add]
    refine ⟨w1 _, r_yes (r_true (c := true) rfl ?_)⟩
    refine htb i _ lt s1 _ ⟨q, rfl, by omega, by omega, ?_⟩
    refine ⟨fun j k H1 => k = q - j ∧ j ≤ q ∧ ∃ refs, Same H H1 ∧ H1 D = some (.lst refs) ∧ Tups H1 refs (pairsTo q i j), ⟨q, by omega, by omega, refs, s1, e1, t1⟩, ?_⟩
    rintro j k H3 ⟨rfl, hj, refs, s3, e3, t3⟩
    by_cases lt2 : j < q
    · refine .inr ⟨by show j < (q : Int).toNat; omega, fun H' => ∃ refs, Same H H' ∧ H' D = some (.lst refs) ∧ Tups H' refs (pairsTo q i (j + 1)), fun H' h => ⟨q - (j + 1), by omega, rfl, lt2, h⟩, ?_⟩
      rintro y H4 ⟨rfl, rfl⟩
      rw [Int.zero_add]
      refine ⟨w2 _ _, r_yes (r_true (c := true) rfl ?_)⟩
      refine hte i j _ lt lt2 s3 _ fun t H5 s5 ht h5 => ⟨refs, s5 _ _ e3, ?_, refs ++ [.ref t], ?_, upd_same, ?_⟩
      · have h1 := Paired.length t3
        have h2 := pairsTo_len q i j
        have h3 : i * q ≤ 20 * 20 := Nat.mul_le_mul (by omega) (by omega)
        exact small_lt (by omega)
      · intro c o hc
        exact kpO (s5 _ _ (s3 _ _ hc)) (ne_of_none hc hD)
      · rw [pairsTo_more]
        refine Tups.upd (Paired.snoc ⟨t, rfl, h5⟩ (t3.same s5)) fun xs z => ?_
        have := s5 _ _ e3
        rw [this] at z; cases z
    · have ej : j = q := by omega
      subst ej
      refine .inl ⟨by show (j : Int).toNat ≤ j; omega, refs, s3, e3, ?_⟩
      rw [← pairsTo_next]; exact t3
  · have ei : i = p := by omega
    subst ei
    exact .inl ⟨by show (i : Int).toNat ≤ i; omega, hd D refs _ s1 hD e1 t1⟩
end
end Jv
namespace Jv
open PySem PySem.Spec PyProof.Rows L2
theorem log_small {m : Int} (h0 : 0 < m) (h1 : m < 2 ^ 200) : m.natAbs.log2 < 9000 := Nat.lt_trans (PySem.Flt.log2_lt_of (n := m.natAbs) (k := 200) (by decide) (by omega)) (by decide)
theorem cdivS {i m : Int} (h0 : 0 < m) (h1 : m < 2 ^ 200) : CDivW i m := ⟨h0, log_small h0 h1⟩
end Jv
namespace Jv
open PySem PySem.Spec PyProof.Rows L2
section
variable {K : PySem.W.Frag} {σ : L2.St} {H : Hp} {Q : VK} {to : TE} {t : TA} {y : V}
theorem r_bm {T : String} {r : V → List V → Hp → VK → Prop} (h : to σ H fun x H1 => tyV K T x H1 ∧ t σ H1 fun xs H2 => r x xs H2 Q) : tBM K T r to t σ H Q := h
theorem r_tyL {p : Addr} {xs : List V} {P : Prop} (h : H p = some (.lst xs)) (q : P) : tyV K "list" (.ref p) H ∧ P := ⟨.inl ⟨rfl, xs, sqL_at h⟩, q⟩
theorem r_app {l : Addr} {xs : List V} (h : H l = some (.lst xs)) (hz : xs.length < 1000) (q : Q .non (upd H l (.lst (xs ++ [y])))) : rAppend (.ref l) [y] H Q := ⟨l, xs, y, rfl, rfl, h, small_lt hz, q⟩
theorem seqIx {k : Int} {n : Nat} (h0 : 0 ≤ k) (h1 : k.toNat < n) : seqIndex? k n = some k.toNat := by
  unfold seqIndex?
  simp; omega
theorem r_popAt {l : Addr} {xs : List V} {k : Int} (h : H l = some (.lst xs)) (h0 : 0 ≤ k) (h1 : k < 1000) (e : xs[k.toNat]? = some y) (q : Q y (upd H l (.lst (xs.eraseIdx k.toNat)))) : rPopAt (.ref l) [.int k] H Q :=
  ⟨l, xs, k, k.toNat, y, rfl, rfl, h, by omega, by omega, seqIx h0 (List.getElem?_eq_some_iff.mp e).1, e, q⟩
theorem erase_perm : ∀ {l : List Int} {k : Nat} {z : Int}, l[k]? = some z → (z :: l.eraseIdx k).Perm l
  | [], k, z, h => by simp at h
  | a :: r, 0, z, h => by
    have e : a = z := Option.some.inj h
    subst e; exact .refl _
  | a :: r, k + 1, z, h => (List.Perm.swap a z _).trans (List.Perm.cons a (erase_perm (l := r) (k := k) h))
theorem pop_perm {ns ms : List Int} {k : Nat} {z : Int} (e : ms[k]? = some z) : ((ns ++ [z]) ++ ms.eraseIdx k).Perm (ns ++ ms) := by
  rw [List.append_assoc]
  exact List.Perm.append_left ns (erase_perm e)
def rgI (n : Nat) : List Int := (List.range n).map fun (i : Nat) => (i : Int)
end
theorem rises_no {ns : List Int} {k b z : Int} {i : Nat} (hz : ns[i]? = some z) (hb : b = -1 ∨ b ∈ ns.take i) (h : ¬ (b < z ∧ z < k)) : ¬ lotP k ns := fun ⟨h1, _, h3⟩ => by
  obtain ⟨a0, a1⟩ := h1 z (List.mem_of_getElem? hz)
  refine h ⟨?_, by omega⟩
  rcases hb with rfl | hb
  · omega
  · obtain ⟨hi, rfl⟩ := List.getElem?_eq_some_iff.mp hz
    rw [← List.take_append_drop i ns, List.pairwise_append] at h3
    exact h3.2.2 b hb _ (by rw [List.mem_iff_getElem]; exact ⟨0, by rw [List.length_drop]; omega, by simp⟩)
end Jv
namespace Jv
open PySem PySem.Spec PyProof.Rows L2
theorem erase_map : ∀ (l : List Int) (j : Nat), (l.map V.int).eraseIdx j = (l.eraseIdx j).map V.int
  | [], _ => rfl
  | _ :: _, 0 => rfl
  | a :: r, j + 1 => congrArg (V.int a :: ·) (erase_map r j)
end Jv

/-! ### keyword calls, dict displays, things that are refused -/
namespace Jv
open PySem PySem.Spec PyProof.Rows L2
section
variable {K : PySem.W.Frag} {σ : L2.St} {H : Hp} {t tk : TA} {te tv : TE} {Q : VK} {A B : Prop}
theorem r_callN {n m : Nat} {sp : Sp} {gV : List V → List V → List V} {E : XK} (h : t σ H fun vs H1 => tk σ H1 fun zs H2 => vs.length = n ∧ zs.length = m ∧ sp (gV vs zs) H2 Q E) : tCallN n m sp gV E t tk σ H Q := h
theorem r_disp1 {k v : Int} (q : ∀ p, H p = none → Q (.ref p) (upd H p (.dK [(.inl k, .int v)]))) : tDisp [(tC (.int k), tC (.int v))] σ H Q := fun p hp =>
  ⟨upd_same, [(.inl k, .int v)], rfl, Nat.le_of_ble_eq_true rfl, by rw [upd_upd]; exact q p hp⟩
theorem r_disp2 {k v k' v' : Int} (ne : k ≠ k') (q : ∀ p, H p = none → Q (.ref p) (upd H p (.dK [(.inl k, .int v), (.inl k', .int v')]))) : tDisp [(tC (.int k), tC (.int v)), (tC (.int k'), tC (.int v'))] σ H Q := fun p hp =>
  ⟨upd_same, [(.inl k, .int v), (.inl k', .int v')], rfl, Nat.le_of_ble_eq_true rfl, by
    rw [upd_upd]
    have e : mergeK ([] : List (Key × V)) [(.inl k, .int v), (.inl k', .int v')] = [(.inl k, .int v), (.inl k', .int v')] := by
      simp [mergeK, putK, ne]
    rw [e]; exact q p hp⟩
theorem r_same {b : Bool} (q : B) : if (!decide (b = b)) = true then A else B := r_false (by rw [decide_eq_true rfl]; rfl) q
theorem r_same' {b c : Bool} (e : b = c) (q : B) : if (!decide (b = c)) = true then A else B := by subst e; exact r_same q
/-- the same, in a condition that is not yet an if -/
theorem r_dsame {P : Bool → Prop} {b : Bool} (q : P true) : P (decide (b = b)) := by rw [decide_eq_true rfl]; exact q
theorem r_and_k {te ta : TE} {c : Bool} (h : te σ H fun x H1 => ∃ c, x = .bl c ∧ if c = true then ta σ H1 Q else Q (.bl false) H1) : tAndV te ta σ H Q := h
end
/-- a thing that is neither a lot nor an order nor sides nor a couple -/
def BadTh (H : Hp) (x : V) : Prop := ThS H x ∧ ∀ xs, sqOf H x = some xs → intsV xs = none
theorem BadTh.same {H H' : Hp} {x : V} (h : BadTh H x) (s : Same H H') : BadTh H' x := ⟨h.1.same s, fun xs e => h.2 xs (by rw [← sqOf_same h.1.1 s]; exact e)⟩
theorem BadTh.lot {H : Hp} {x : V} {k : Int} (h : BadTh H x) : lotV H x k = false := by
  unfold lotV
  cases e : sqOf H x with
  | none => rfl
  | some xs => dsimp only; rw [h.2 xs e]
theorem BadTh.order {H : Hp} {x : V} {k : Int} (h : BadTh H x) : orderV H x k = false := by
  unfold orderV
  cases e : sqOf H x with
  | none => rfl
  | some xs => dsimp only; rw [h.2 xs e]
section
variable {H : Hp}
theorem bad_sc {x : V} (h : Th H x) (n : sqOf H x = none) : BadTh H x := ⟨⟨h, fun xs q => by rw [q.of] at n; cases n⟩, fun xs e => by rw [n] at e; cases e⟩
theorem bad_dK {a : Addr} {kvs : List (Key × V)} (h : H a = some (.dK kvs)) : BadTh H (.ref a) := bad_sc (.inr (.inr ⟨_, h⟩)) (by simp [sqOf, h])
theorem bad_sq {a : Addr} {xs : List V} (h : H a = some (.lst xs) ∨ H a = some (.tup xs)) (few : xs.length ≤ 60) (th : ∀ v ∈ xs, Th H v) (n : intsV xs = none) : BadTh H (.ref a) := by
  have sq : Sq H (.ref a) xs := ⟨a, rfl, h⟩
  refine ⟨⟨sq.th, fun ys q => ?_⟩, fun ys e => ?_⟩
  · have e := q.of; rw [sq.of] at e; cases e; exact ⟨few, th⟩
  · rw [sq.of] at e; cases e; exact n
theorem thS_ints {a : Addr} {ns : List Int} (h : H a = some (.lst (ns.map V.int)) ∨ H a = some (.tup (ns.map V.int))) (few : ns.length ≤ 60) : ThS H (.ref a) := by
  have sq : Sq H (.ref a) (ns.map V.int) := ⟨a, rfl, h⟩
  refine ⟨sq.th, fun ys q => ?_⟩
  have e := q.of; rw [sq.of] at e; cases e
  refine ⟨by rw [List.length_map]; exact few, fun v hv => ?_⟩
  obtain ⟨i, _, rfl⟩ := List.mem_map.mp hv
  trivial
theorem wholeV_not {x lo hi : V} (h : isI x = false) : wholeV x lo hi = false := by
  cases x with
  | int i => cases h
  | _ => rfl
theorem shaped_bad {d : PyData} (h : PyData.canLay0 d = true) (h2 : PyData.depth d = 0) : SeqAt.shaped (.list [.str "bad", d]) = true := by
  simp [SeqAt.shaped, PyData.canLay0, PyData.depth, PyData.canLayAll0, PyData.depthAll, h, h2]; decide +kernel
end
end Jv

/-! ### data: none, truths, whole numbers, texts, lists that stand, tuples that stand or are the program's own -/
namespace Jv
open PySem PySem.Spec PyProof.Rows L2
mutual
inductive Dv (K : PySem.W.Frag) (H : Hp) : V → PyData → Prop
  | non : Dv K H .non .none
  | bl (b : Bool) : Dv K H (.bl b) (.bool b)
  | int (i : Int) : Dv K H (.int i) (.int i)
  | str (x : Str) : Dv K H (.str x) (.str x)
  | lst {a : Addr} {xs : List V} {ds : List PyData} : H a = some (.lst xs) → DvAll K H xs ds → Dv K H (.ref a) (.list ds)
  | tup {a : Addr} {xs : List V} {ds : List PyData} : SqT K H a xs → DvAll K H xs ds → Dv K H (.ref a) (.tuple ds)
inductive DvAll (K : PySem.W.Frag) (H : Hp) : List V → List PyData → Prop
  | nil : DvAll K H [] []
  | cons {v : V} {vs : List V} {d : PyData} {ds : List PyData} : Dv K H v d → DvAll K H vs ds → DvAll K H (v :: vs) (d :: ds)
end
mutual
theorem Dv.same {K : PySem.W.Frag} {H H' : Hp} (s : Same H H') : ∀ {v : V} {d : PyData}, Dv K H v d → Dv K H' v d
  | _, _, .non => .non
  | _, _, .bl b => .bl b
  | _, _, .int i => .int i
  | _, _, .str x => .str x
  | _, _, .lst h q => .lst (s _ _ h) (DvAll.same s q)
  | _, _, .tup h q => .tup (Jv.Same.sqT s h) (DvAll.same s q)
theorem DvAll.same {K : PySem.W.Frag} {H H' : Hp} (s : Same H H') : ∀ {vs : List V} {ds : List PyData}, DvAll K H vs ds → DvAll K H' vs ds
  | _, _, .nil => .nil
  | _, _, .cons a b => .cons (Dv.same s a) (DvAll.same s b)
end
mutual
theorem Dv.dp {K : PySem.W.Frag} {H : Hp} : ∀ {v : V} {d : PyData}, Dv K H v d → Dp K H v d
  | _, _, .non => .non
  | _, _, .bl b => .bl b
  | _, _, .int i => .int i
  | _, _, .str x => .str x
  | _, _, .lst h q => .lst (sqL_at h) (DvAll.dp q)
  | _, _, .tup h q => .tup h (DvAll.dp q)
theorem DvAll.dp {K : PySem.W.Frag} {H : Hp} : ∀ {vs : List V} {ds : List PyData}, DvAll K H vs ds → DpAll K H vs ds
  | _, _, .nil => .nil
  | _, _, .cons a b => .cons (Dv.dp a) (DvAll.dp b)
end
section
variable {K : PySem.W.Frag} {H : Hp} {v : V} {d : PyData} {vs : List V} {ds : List PyData}
theorem DvAll.len : ∀ {vs : List V} {ds : List PyData}, DvAll K H vs ds → vs.length = ds.length
  | _, _, .nil => rfl
  | _, _, .cons _ b => congrArg (· + 1) (DvAll.len b)
theorem DvAll.snoc (h : Dv K H v d) : ∀ {vs : List V} {ds : List PyData}, DvAll K H vs ds → DvAll K H (vs ++ [v]) (ds ++ [d])
  | _, _, .nil => .cons h .nil
  | _, _, .cons a b => .cons a (DvAll.snoc h b)
theorem DvAll.at : ∀ {vs : List V} {ds : List PyData} {i : Nat} {v : V}, DvAll K H vs ds → vs[i]? = some v → ∃ d, ds[i]? = some d ∧ Dv K H v d
  | _, _, _, _, .nil, e => by simp at e
  | _, _, 0, _, .cons a _, e => by
    simp at e; subst e; exact ⟨_, rfl, a⟩
  | _, _, i + 1, _, .cons _ b, e => by
    simp at e ⊢; exact DvAll.at b e
theorem DvAll.of : ∀ {vs : List V} {ds : List PyData} {i : Nat} {d : PyData}, DvAll K H vs ds → ds[i]? = some d → ∃ v, vs[i]? = some v ∧ Dv K H v d
  | _, _, _, _, .nil, e => by simp at e
  | _, _, 0, _, .cons a _, e => by
    simp at e; subst e; exact ⟨_, rfl, a⟩
  | _, _, i + 1, _, .cons _ b, e => by
    simp at e ⊢; exact DvAll.of b e
theorem dv_ints : ∀ ns : List Int, DvAll K H (ns.map V.int) (ns.map PyData.int)
  | [] => .nil
  | a :: r => .cons (.int a) (dv_ints r)
end
/-- what sort a thing is -/
def tyD : PyData → String
  | .none => "NoneType"
  | .bool _ => "bool"
  | .int _ => "int"
  | .str _ => "str"
  | .list _ => "list"
  | .tuple _ => "tuple"
  | _ => "object"
def boolD : PyData → Bool
  | .bool _ => true
  | _ => false
def intD : PyData → Bool
  | .int _ => true
  | _ => false
def seqD : PyData → Option (List PyData)
  | .list xs => some xs
  | .tuple xs => some xs
  | _ => none
section
variable {K : PySem.W.Frag} {H : Hp} {v : V} {d : PyData} {Q : VK}
theorem SqT.tyX {a : Addr} {xs : List V} (h : SqT K H a xs) : TyX K H (.ref a) (.type "tuple") := by
  rcases h with (h | ⟨o, h⟩) | ⟨o, its, n, h, c, _⟩
  · exact .base (.tup h)
  · exact .fTuple h
  · exact .kTuple h c
theorem Dv.ty (h : Dv K H v d) : TyX K H v (.type (tyD d)) := by
  cases h with
  | non => exact .base .non
  | bl b => exact .base (.bl b)
  | int i => exact .base (.int i)
  | str x => exact .base (.str x)
  | lst h _ => exact .base (.lst h)
  | tup h _ => exact SqT.tyX h
theorem Dv.kits (h : Dv K H v d) : kitB (tyD d) "bool" = some (boolD d) ∧ kitB (tyD d) "int" = some (boolD d || intD d) ∧ kitB (tyD d) "list" = some (tyD d == "list") ∧ kitB (tyD d) "tuple" = some (tyD d == "tuple") ∧ kitB (tyD d) "str" = some (tyD d == "str") ∧ ((tyD d == "list") || (tyD d == "tuple")) = (seqD d).isSome := by
  cases h with
  | non => exact ⟨(by decide +kernel : kitB "NoneType" "bool" = some false), (by decide +kernel : kitB "NoneType" "int" = some false), (by decide +kernel : kitB "NoneType" "list" = some ("NoneType" == "list")), (by decide +kernel : kitB "NoneType" "tuple" = some ("NoneType" == "tuple")), (by decide +kernel : kitB "NoneType" "str" = some ("NoneType" == "str")), (by decide +kernel : (("NoneType" == "list") || ("NoneType" == "tuple")) = false)⟩
  | bl b => exact ⟨(by decide +kernel : kitB "bool" "bool" = some true), (by decide +kernel : kitB "bool" "int" = some true), (by decide +kernel : kitB "bool" "list" = some ("bool" == "list")), (by decide +kernel : kitB "bool" "tuple" = some ("bool" == "tuple")), (by decide +kernel : kitB "bool" "str" = some ("bool" == "str")), (by decide +kernel : (("bool" == "list") || ("bool" == "tuple")) = false)⟩
  | int i => exact ⟨(by decide +kernel : kitB "int" "bool" = some false), (by decide +kernel : kitB "int" "int" = some true), (by decide +kernel : kitB "int" "list" = some ("int" == "list")), (by decide +kernel : kitB "int" "tuple" = some ("int" == "tuple")), (by decide +kernel : kitB "int" "str" = some ("int" == "str")), (by decide +kernel : (("int" == "list") || ("int" == "tuple")) = false)⟩
  | str x => exact ⟨(by decide +kernel : kitB "str" "bool" = some false), (by decide +kernel : kitB "str" "int" = some false), (by decide +kernel : kitB "str" "list" = some ("str" == "list")), (by decide +kernel : kitB "str" "tuple" = some ("str" == "tuple")), (by decide +kernel : kitB "str" "str" = some ("str" == "str")), (by decide +kernel : (("str" == "list") || ("str" == "tuple")) = false)⟩
  | lst _ _ => exact ⟨(by decide +kernel : kitB "list" "bool" = some false), (by decide +kernel : kitB "list" "int" = some false), (by decide +kernel : kitB "list" "list" = some ("list" == "list")), (by decide +kernel : kitB "list" "tuple" = some ("list" == "tuple")), (by decide +kernel : kitB "list" "str" = some ("list" == "str")), (by decide +kernel : (("list" == "list") || ("list" == "tuple")) = true)⟩
  | tup _ _ => exact ⟨(by decide +kernel : kitB "tuple" "bool" = some false), (by decide +kernel : kitB "tuple" "int" = some false), (by decide +kernel : kitB "tuple" "list" = some ("tuple" == "list")), (by decide +kernel : kitB "tuple" "tuple" = some ("tuple" == "tuple")), (by decide +kernel : kitB "tuple" "str" = some ("tuple" == "str")), (by decide +kernel : (("tuple" == "list") || ("tuple" == "tuple")) = true)⟩
theorem d_isB (h : Dv K H v d) (q : Q (.bl (boolD d)) H) : rIsi K [v, .ty "bool"] H Q := ⟨v, _, _, _, _, rfl, .ty _, h.ty, kit_ty h.kits.1, q⟩
theorem d_isI (h : Dv K H v d) (q : Q (.bl (boolD d || intD d)) H) : rIsi K [v, .ty "int"] H Q := ⟨v, _, _, _, _, rfl, .ty _, h.ty, kit_ty h.kits.2.1, q⟩
theorem d_isT (h : Dv K H v d) (q : Q (.bl (tyD d == "tuple")) H) : rIsi K [v, .ty "tuple"] H Q := ⟨v, _, _, _, _, rfl, .ty _, h.ty, kit_ty h.kits.2.2.2.1, q⟩
theorem d_isStr (h : Dv K H v d) (q : Q (.bl (tyD d == "str")) H) : rIsi K [v, .ty "str"] H Q := ⟨v, _, _, _, _, rfl, .ty _, h.ty, kit_ty h.kits.2.2.2.2.1, q⟩
theorem d_isS {p : Addr} (hp : H p = some (.tup [.ty "list", .ty "tuple"])) (h : Dv K H v d) (q : Q (.bl (seqD d).isSome) H) : rIsiT K [v, .ref p] H Q := by
  obtain ⟨_, _, h2, h3, _, h4⟩ := h.kits
  refine ⟨v, p, _, _, _, (seqD d).isSome, rfl, hp, .cons (.ty _) (.cons (.ty _) .nil), h.ty, ?_, q⟩
  refine kitAny_cons (kit_ty h2) (fun e => ?_) fun e => by rw [← h4, e]; rfl
  refine kitAny_cons (kit_ty h3) (fun e2 => ?_) fun e2 => by rw [← h4, e2, Bool.or_true]
  rw [kitAny_nil, ← h4, e, e2]; rfl
/-- a sequence's items -/
theorem Dv.seq (h : Dv K H v d) {ds : List PyData} (e : seqD d = some ds) : ∃ a xs, v = .ref a ∧ (SqL K H a xs ∨ SqT K H a xs) ∧ DvAll K H xs ds := by
  cases h with
  | lst h q => cases e; exact ⟨_, _, rfl, .inl (sqL_at h), q⟩
  | tup h q => cases e; exact ⟨_, _, rfl, .inr h, q⟩
  | _ => cases e
end
/-- is_whole's answer, of data -/
def wholeD : PyData → V → V → Bool
  | .int i, lo, hi => loOk lo i && hiOk hi i
  | _, _, _ => false
end Jv

/-! ### methods, makings that may raise within a try; static methods; readings of objects -/
namespace Jv
open PySem PySem.Spec PyProof.Rows L2
section
variable {X : Cx} {CX : CXT} {k : Nat} {f C : Addr} {fd : FuncData} {ps : List Str} {sp : Sp} {dvs : List V} {ds : List Value} {E : L2.St → XK} {x m : Str} {p pos apos : Pos} {e o : Expr} {es : List Expr} {ta : TE} {t : TA}
theorem run_fnX {pins : List (Addr × Obj)} {σ : L2.St} {H : Hp} {s : Shared} {Q : VK} {us : List Value} {vs : List V} (F : FnOk X.prog X.w X.K X.mg X.base CX k f fd ps sp) (hr : Room k X.A) (hb : Binds X.K fd ps ds) (hd : Vals dvs ds) (hx : PassesAt CX X σ (E σ))
    (I : Inv X pins σ H s) (r : Vals vs us) (h : sp (vs ++ dvs) H Q (E σ)) : wpAny (model X.prog X.w) X.A (call (.ref f) us) (EP X pins σ Q) X.xe s := by
  have r2 : Vals (vs ++ dvs) (us ++ ds) := r.append hd
  have hl : (us ++ ds).length = ps.length := by rw [← r2.length]; exact F.len _ _ _ _ h
  refine wpAny_call (codeAny_mono (F.run X.A X.stack s H ⟨us, []⟩ (us ++ ds) (vs ++ dvs) Q (E σ) hr I.env0 (hb s us I.kIn hl) r2 h) fun r s' hq => ?_)
  cases r with
  | error e => exact hx pins H s e s' I hq
  | ok fl =>
    cases fl with
    | ret u => exact I.after hq
    | next => exact False.elim hq
    | brk => exact False.elim hq
    | cont => exact False.elim hq
def tMethX (C : Addr) (m : Str) (sp : Sp) (dvs : List V) (E : L2.St → XK) (ta : TE) (t : TA) : TE := fun σ H Q => ta σ H fun x H1 => ∃ a dx fs, x = .ref a ∧ H1 a = some (.ins C dx fs) ∧ fs.lookup m = none ∧
  t σ H1 fun vs H2 => sp (x :: (vs ++ dvs)) H2 Q (E σ)
theorem pe_methX {pl : Sem Bool} (he : PE X o ta) (c : Cls X.K C) (hm : Meth X.K C m f) (F : FnOk X.prog X.w X.K X.mg X.base CX k f fd ps sp) (hr : Room k X.A) (hb : Binds X.K fd ps ds) (hd : Vals dvs ds) (hx : ∀ σ, PassesAt CX X σ (E σ)) (ha : PA X (e :: es) t)
    (hst : starEach (e :: es) X.env = (false, eval e X.env) :: starEach es X.env := by rfl) (hpl : (backTo pos (starEach es X.env)).any (·.1) = false := by rfl)
    (ht : eval (.Call (.Attribute o m apos) (e :: es) [] pos) X.env = (do
      let ov ← eval o X.env
      standAt apos.atName
      let (f, first) ← holding [ov] (getMethod ov m pl)
      callWith pos f first (backTo pos (starEach (e :: es) X.env)) (backToKw pos (keywordEach [] X.env))) := by rfl) :
    PE X (.Call (.Attribute o m apos) (e :: es) [] pos) (tMethX C m sp dvs E ta t) := by
  refine ⟨fun pins s σ H Q I h => ?_⟩
  refine PySem.W.methodCall_KW (pl := pl) (thn (he.run pins s σ H _ I h) fun u s1 ⟨x, H1, I1, rx, a, dx, fs, ex, ea, l, q⟩ => ?_) ht
  subst ex
  obtain rfl : u = Value.ref a := rx
  refine getmeth_ok I1 ea c hm l ?_
  refine PySem.W.callWith_K (first := [.ref a]) (h₀ := X.base) I.ok.mod.kin hm.kp (thn (ha.run pos pins s1 σ H1 _ I1 q) fun us s2 ⟨vs, H2, I2, r, q2⟩ => ⟨I2.kIn, ?_⟩) hst hpl
  exact run_fnX (us := .ref a :: us) (vs := .ref a :: vs) F hr hb hd (hx σ) I2 (.cons rfl r) q2
def tMakeX (C : Addr) (sp : Sp) (dvs : List V) (E : L2.St → XK) (t : TA) : TE := fun σ H Q => t σ H fun vs H1 => ∀ x dx, H1 x = none → H1 dx = none → dx ≠ x →
  sp (.ref x :: (vs ++ dvs)) (upd (upd H1 dx (.own x)) x (.ins C dx [])) (fun v H2 => v = .non ∧ Q (.ref x) H2) (E σ)
theorem run_makeX {pins : List (Addr × Obj)} {σ : L2.St} {H : Hp} {s : Shared} {Q : VK} {us : List Value} {vs : List V} (M : Mk X.K C f) (F : FnOk X.prog X.w X.K X.mg X.base CX k f fd ps sp) (hr : Room (k + 1) X.A) (hb : Binds X.K fd ps ds) (hd : Vals dvs ds)
    (hx : PassesAt CX X σ (E σ)) (I : Inv X pins σ H s) (r : Vals vs us)
    (h : ∀ x dx, H x = none → H dx = none → dx ≠ x → sp (.ref x :: (vs ++ dvs)) (upd (upd H dx (.own x)) x (.ins C dx [])) (fun v H2 => v = .non ∧ Q (.ref x) H2) (E σ)) :
    wpAny (model X.prog X.w) X.A (call (.ref C) us) (EP X pins σ Q) X.xe s := by
  have hq := h (s.heap.objs.size + 1) s.heap.objs.size (I.hok.fresh (Nat.le_succ _)) (I.hok.fresh (Nat.le_refl _)) (Nat.ne_of_lt (Nat.lt_succ_self _))
  have I2 := Inv.made (C := C) I
  have r2 : Vals (V.ref (s.heap.objs.size + 1) :: (vs ++ dvs)) (Value.ref (s.heap.objs.size + 1) :: (us ++ ds)) := .cons rfl (r.append hd)
  have hl : (Value.ref (s.heap.objs.size + 1) :: us ++ ds).length = ps.length := by
    have e := r2.length
    rw [F.len _ _ _ _ hq] at e
    exact e.symm
  refine wpAny_call (make_map (f := f) I.kIn M.makes M.init (beq_iff_eq.mp M.fn) (codeAny_mono (F.run _ X.stack _ _ ⟨Value.ref (s.heap.objs.size + 1) :: us, []⟩ (Value.ref (s.heap.objs.size + 1) :: (us ++ ds)) _ _ (E σ) (hr.make C us [])
    (I2.env0.make C us []) (hb _ (Value.ref (s.heap.objs.size + 1) :: us) I2.kIn hl) r2 hq) fun r s' hq' => ?_))
  cases r with
  | error e => exact hx pins _ _ e s' I2 hq'
  | ok fl =>
    cases fl with
    | ret u =>
      obtain ⟨v, H', I3, rv, ev, q3⟩ := I2.after hq'
      subst ev
      exact ⟨rv, ⟨V.ref (s.heap.objs.size + 1), H', I3, rfl, q3⟩⟩
    | next => exact False.elim hq'
    | brk => exact False.elim hq'
    | cont => exact False.elim hq'
theorem pe_makeX (M : Mk X.K C f) (F : FnOk X.prog X.w X.K X.mg X.base CX k f fd ps sp) (hr : Room (k + 1) X.A) (hg : Gl X x) (hm : X.mg x = some (.ref C)) (hb : Binds X.K fd ps ds) (hd : Vals dvs ds) (hx : ∀ σ, PassesAt CX X σ (E σ))
    (ha : PA X (e :: es) t) (hdb : (x == ("__debug__" : Str)) = false := by decide) (he : starEach (e :: es) X.env = (false, eval e X.env) :: starEach es X.env := by rfl) (hpl : (backTo pos (starEach es X.env)).any (·.1) = false := by rfl) :
    PE X (.Call (.Name x p) (e :: es) [] pos) (tMakeX C sp dvs E t) := by
  refine ⟨fun pins s σ H Q I h => ?_⟩
  refine wpAny_Call_Name_kw (ld_glob I hg hm ?_ hdb)
  refine PySem.W.callWith_K (h₀ := X.base) I.ok.mod.kin M.kp (thn (ha.run pos pins s σ H _ I h) fun us s1 ⟨vs, H1, I1, r, q⟩ => ⟨I1.kIn, ?_⟩) he hpl
  exact run_makeX M F hr hb hd (hx σ) I1 r q
end
/-- C.m is a static method: its record at p, its def at g -/
structure SMet (K : PySem.W.Frag) (C : Addr) (mc : Value) (m : Str) (p g : Addr) : Prop where
  rd : PySem.W.readsIn K C mc = true
  ga : PySem.W.specialIn K (.ref C) "__getattribute__" = some (some (.builtin "type.__getattribute__"))
  at_ : PySem.W.findCls K (.ref C) mc m = some (.get (.builtin "staticmethod.__get__") (.ref p) .none (.ref C))
  rc : ∃ rest, PySem.W.recIn K p "staticmethod" = some (.ref g :: rest)
  kp : PySem.W.keepIn K (.ref g) = true
section
variable {X : Cx} {CX : CXT} {k : Nat} {g p C : Addr} {mc : Value} {fd : FuncData} {ps : List Str} {sp : Sp} {dvs : List V} {ds : List Value} {E : XK} {m : Str} {pos apos : Pos} {e o : Expr} {es : List Expr} {ta : TE} {t : TA}
def tSMeth (C : Addr) (sp : Sp) (dvs : List V) (E : XK) (ta : TE) (t : TA) : TE := fun σ H Q => ta σ H fun x H1 => x = .ref C ∧ t σ H1 fun vs H2 => sp (vs ++ dvs) H2 Q E
theorem getsm_ok {pins : List (Addr × Obj)} {σ : L2.St} {H : Hp} {s : Shared} {A : Around} {E : Value → Shared → Prop} {pl : Sem Bool} {Q : Value × List Value → Shared → Prop} (I : Inv X pins σ H s) (r : SMet X.K C mc m p g)
    (h : ∀ s', Inv X pins σ H s' → Q (.ref g, []) s') : wpAny (model X.prog X.w) A (getMethod (.ref C) m pl) Q E s := by
  obtain ⟨rest, hp⟩ := r.rc
  refine PySem.W.method_cls I.kIn r.ga (PySem.W.cls_bind I.kIn r.rd r.at_ ?_)
  exact wpAny_call (PySem.W.sm_get (s := { s with toks := s.toks + 1 }) I.kIn hp (PySem.W.handed_on rfl (h _ (I.tok _))))
theorem pe_smeth {pl : Sem Bool} (he : PE X o ta) (c : SMet X.K C mc m p g) (F : FnOk X.prog X.w X.K X.mg X.base CX k g fd ps sp) (hr : Room k X.A) (hb : Binds X.K fd ps ds) (hd : Vals dvs ds) (hx : Passes CX X E) (ha : PA X (e :: es) t)
    (hst : starEach (e :: es) X.env = (false, eval e X.env) :: starEach es X.env := by rfl) (hpl : (backTo pos (starEach es X.env)).any (·.1) = false := by rfl)
    (ht : eval (.Call (.Attribute o m apos) (e :: es) [] pos) X.env = (do
      let ov ← eval o X.env
      standAt apos.atName
      let (f, first) ← holding [ov] (getMethod ov m pl)
      callWith pos f first (backTo pos (starEach (e :: es) X.env)) (backToKw pos (keywordEach [] X.env))) := by rfl) :
    PE X (.Call (.Attribute o m apos) (e :: es) [] pos) (tSMeth C sp dvs E ta t) := by
  refine ⟨fun pins s σ H Q I h => ?_⟩
  refine PySem.W.methodCall_KW (pl := pl) (thn (he.run pins s σ H _ I h) fun u s1 ⟨x, H1, I1, rx, ex, q⟩ => ?_) ht
  subst ex
  obtain rfl : u = Value.ref C := rx
  refine getsm_ok I1 c fun s2 I2 => ?_
  refine PySem.W.callWith_K (first := []) (h₀ := X.base) I.ok.mod.kin c.kp (thn (ha.run pos pins s2 σ H1 _ I2 q) fun us s3 ⟨vs, H2, I3, rv, q2⟩ => ⟨I3.kIn, ?_⟩) hst hpl
  exact run_fn F hr hb hd hx I3 rv q2
end
end Jv

/-! ### is True, is False of any thing; faults caught by one of two names -/
namespace Jv
open PySem PySem.Spec PyProof.Rows L2
/-- a is b, b True or False -/
def rIsT : R2 := fun x y H Q => ∃ b : Bool, y = .bl b ∧ Q (.bl (decide (x = .bl b))) H
theorem op_isT {X : Cx} : OpR X (compareOp .Is) rIsT := by
  intro pins s σ H x y v u Q I rx ry h
  obtain ⟨b, rfl, q⟩ := h
  cases (show u = Value.bool b from ry)
  by_cases e : x = .bl b
  · subst e
    cases (show v = Value.bool b from rx)
    exact wpAny_is_self rfl ⟨.bl true, H, I, rfl, by simpa using q⟩
  · have e2 : decide (x = .bl b) = false := decide_eq_false e
    rw [e2] at q
    refine wpAny_is_other ?_ ?_ ⟨.bl false, H, I, rfl, q⟩
    · cases x <;> first
        | (cases rx; rfl)
        | (obtain ⟨t, rfl⟩ := rx; rfl)
    · intro z
      cases x with
      | bl c => cases (show v = Value.bool c from rx); exact e (by cases z; rfl)
      | non => cases rx; cases z
      | int i => obtain ⟨t, rfl⟩ := rx; cases z
      | str i => obtain ⟨t, rfl⟩ := rx; cases z
      | byt i => obtain ⟨t, rfl⟩ := rx; cases z
      | flt i => obtain ⟨t, rfl⟩ := rx; cases z
      | ref a => cases (show v = Value.ref a from rx); cases z
      | ty a => cases (show v = Value.type a from rx); cases z
end Jv

/-! ### sequences that stand or are the program's own; walks, comprehensions over them; data's answers -/
namespace Jv
open PySem PySem.Spec PyProof.Rows L2
def Sk (K : PySem.W.Frag) (H : Hp) (x : V) (xs : List V) : Prop := ∃ a, x = .ref a ∧ (SqL K H a xs ∨ SqT K H a xs)
section
variable {K : PySem.W.Frag} {σ : L2.St} {H H' : Hp} {te : TE} {Q : VK} {xs : List V} {ds : List PyData} {j i : Nat} {x v : V} {d : PyData}
theorem Sk.same (h : Sk K H x xs) (s : Same H H') : Sk K H' x xs := by
  obtain ⟨a, rfl, h | h⟩ := h
  · exact ⟨a, rfl, .inl (s.seq h)⟩
  · exact ⟨a, rfl, .inr (Jv.Same.sqT s h)⟩
theorem Dv.sk (h : Dv K H v d) (e : seqD d = some ds) : ∃ xs, Sk K H v xs ∧ DvAll K H xs ds := by
  obtain ⟨a, xs, e1, e2, e3⟩ := h.seq e
  exact ⟨xs, ⟨a, e1, e2⟩, e3⟩
theorem Sk.len (h : Sk K H x xs) (q : Q (.int xs.length) H) : rLenK K [x] H Q := by
  obtain ⟨a, rfl, h⟩ := h
  exact r_len h q
theorem Sk.ix (h : Sk K H x xs) {k : Int} {v : V} (e : atI xs k = some v) (q : Q v H) : rIx K x (.int k) H Q := by
  obtain ⟨a, rfl, h | h⟩ := h
  · exact .inl (r_ixL h e q)
  · exact .inr (.inl (r_ixT h e q))
/-- over a name that holds a list or a tuple -/
theorem lcK (hv : σ[i]? = some (some x)) (hx : Sk K H x xs) (f : V → V) (few : xs.length ≤ 1000)
    (hs : ∀ v H1, v ∈ xs → Same H H1 → ∀ P : VK, (∀ H2, Same H1 H2 → P (f v) H2) → te ((σ.set j none).set j (some v)) H1 P)
    (hd : ∀ D H1, Same H H1 → H D = none → H1 D = some (.lst (xs.map f)) → Q (.ref D) H1) : tLc (fun σ H R => iList K (tVar i) σ H R ∨ iTup K (tVar i) σ H R) (gName j) tYes te [j] σ H Q := by
  obtain ⟨a, rfl, h | h⟩ := hx
  · exact .inl (lcL hv h f few hs hd)
  · exact .inr (lcT hv h f few hs hd)
theorem Sk.tup (h : Sk K H x xs) (q : ∀ (t : Addr) (H' : Hp), Same H H' → SqT K H' t xs → Q (.ref t) H') : rTupOf K [x] H Q := by
  obtain ⟨a, rfl, h | h⟩ := h
  · exact ⟨a, _, rfl, .inl ⟨h, fun l hl => q l _ (same_new hl) (sqT_at upd_same)⟩⟩
  · exact ⟨a, _, rfl, .inr ⟨h, q a _ (Same.refl _) h⟩⟩
end
def few1 (d : PyData) : Prop := ∀ ds, seqD d = some ds → ds.length ≤ 100
def few2 (d : PyData) : Prop := ∀ ds, seqD d = some ds → ds.length ≤ 100 ∧ ∀ e ∈ ds, few1 e
def few3 (d : PyData) : Prop := ∀ ds, seqD d = some ds → ds.length ≤ 100 ∧ ∀ e ∈ ds, few2 e
theorem DvAll.mem {K : PySem.W.Frag} {H : Hp} : ∀ {vs : List V} {ds : List PyData} {v : V}, DvAll K H vs ds → v ∈ vs → ∃ d ∈ ds, Dv K H v d
  | _, _, _, .nil, m => by cases m
  | _, _, _, .cons a b, m => by
    rcases List.mem_cons.mp m with rfl | m
    · exact ⟨_, List.mem_cons_self, a⟩
    · obtain ⟨d, h1, h2⟩ := DvAll.mem b m
      exact ⟨d, List.mem_cons_of_mem _ h1, h2⟩
theorem Dv.whole {K : PySem.W.Frag} {H : Hp} {v lo hi : V} {d : PyData} (h : Dv K H v d) : wholeV v lo hi = wholeD d lo hi := by
  cases h <;> rfl
/-- a function of things that goes by what they are -/
theorem DvAll.all {K : PySem.W.Frag} {H : Hp} {f : V → Bool} {g : PyData → Bool} (e : ∀ v d, Dv K H v d → f v = g d) : ∀ {vs : List V} {ds : List PyData}, DvAll K H vs ds → vs.all f = ds.all g
  | _, _, .nil => rfl
  | _, _, .cons a b => by rw [List.all_cons, List.all_cons, e _ _ a, DvAll.all e b]
def sidesD (d : PyData) : Bool := match seqD d with
  | some [.int p, .int q] => decide ((1 ≤ p ∧ p ≤ 6) ∧ (1 ≤ q ∧ q ≤ 6) ∧ p * q ≤ 12)
  | _ => false
def endsD (l : Int) (d : PyData) : Bool := match seqD d with
  | some ds => decide (0 < ds.length) && ds.all fun e => wholeD e (.int (-l)) (.int l)
  | none => false
def knowsD (d : PyData) : Bool := match seqD d with
  | some ds => decide (ds.length = 2) && ds.all boolD
  | none => false
theorem boolD_iff {K : PySem.W.Frag} {H : Hp} {v : V} {d : PyData} (h : Dv K H v d) : (decide (v = .bl true) || decide (v = .bl false)) = boolD d := by
  cases h with
  | bl b => cases b <;> rfl
  | _ => rfl
theorem wholeD_int {d : PyData} {l h : Int} : wholeD d (.int l) (.int h) = true → ∃ i, d = .int i ∧ l ≤ i ∧ i ≤ h := by
  intro q
  cases d with
  | int i => simp [wholeD, loOk, hiOk] at q; exact ⟨i, rfl, q⟩
  | _ => cases q
/-- how many lines, how long -/
def linesD (d : PyData) : Option (Nat × Nat) := match seqD d with
  | none => none
  | some ds => if ds.all (fun e => (seqD e).isSome) = true then
      match ds.map (fun e => ((seqD e).getD []).length) with
      | [] => none
      | n :: ns => if ns.all (fun m => decide (m = n)) = true then some (ns.length + 1, n) else none
    else none
end Jv

/-! ### comprehensions whose results are data; the lists under way hidden -/
namespace Jv
open PySem PySem.Spec PyProof.Rows L2
def hide (N : List Addr) (H : Hp) : Hp := fun b => if b ∈ N then none else H b
theorem hide_nil {H : Hp} : hide [] H = H := by funext b; simp [hide]
theorem hide_at {N : List Addr} {H : Hp} {b : Addr} {o : HO} (n : b ∉ N) (h : H b = some o) : hide N H b = some o := by unfold hide; rw [if_neg n]; exact h
theorem hide_some {N : List Addr} {H : Hp} {b : Addr} {o : HO} (h : hide N H b = some o) : b ∉ N ∧ H b = some o := by
  unfold hide at h
  by_cases n : b ∈ N
  · rw [if_pos n] at h; cases h
  · rw [if_neg n] at h; exact ⟨n, h⟩
theorem hide_le {N : List Addr} {H : Hp} : Same (hide N H) H := fun _ _ e => (hide_some e).2
theorem hide_same {N : List Addr} {H H' : Hp} (s : Same H H') : Same (hide N H) (hide N H') := fun _ _ e => hide_at (hide_some e).1 (s _ _ (hide_some e).2)
theorem hide_more {N : List Addr} {H H' : Hp} {D : Addr} (s : Same H H') (n : H D = none) : Same (hide N H) (hide (D :: N) H') := fun b o e => by
  obtain ⟨h1, h2⟩ := hide_some e
  refine hide_at (fun m => ?_) (s _ _ h2)
  rcases List.mem_cons.mp m with rfl | m
  · rw [n] at h2; cases h2
  · exact h1 m
theorem hide_less {N : List Addr} {H : Hp} {D : Addr} : Same (hide (D :: N) H) (hide N H) := fun b o e => by
  obtain ⟨h1, h2⟩ := hide_some e
  exact hide_at (fun m => h1 (List.mem_cons_of_mem _ m)) h2
theorem hide_upd {N : List Addr} {H : Hp} {D : Addr} {o : HO} : hide (D :: N) (upd H D o) = hide (D :: N) H := by
  funext b
  unfold hide
  by_cases m : b ∈ D :: N
  · rw [if_pos m, if_pos m]
  · rw [if_neg m, if_neg m]
    exact upd_ne fun e => m (by rw [e]; exact List.mem_cons_self)
def Held (N : List Addr) (H : Hp) : Prop := ∀ b ∈ N, ∃ o, H b = some o
theorem Held.nil {H : Hp} : Held [] H := fun _ h => by cases h
theorem Held.same {N : List Addr} {H H' : Hp} (h : Held N H) (s : Same H H') : Held N H' := fun b m => let ⟨o, e⟩ := h b m; ⟨o, s _ _ e⟩
theorem Held.cons {N : List Addr} {H : Hp} {D : Addr} {o : HO} (h : Held N H) (e : H D = some o) : Held (D :: N) H := fun b m => by
  rcases List.mem_cons.mp m with rfl | m
  · exact ⟨_, e⟩
  · exact h b m
theorem Held.new {N : List Addr} {H : Hp} {t : Addr} (h : Held N H) (n : H t = none) : t ∉ N := fun m => by
  obtain ⟨o, e⟩ := h t m
  rw [n] at e; cases e
section
variable {K : PySem.W.Frag} {σ : L2.St} {H : Hp} {te : TE} {tt : TT} {Q : VK} {xs : List V} {es : List PyData} {j i n : Nat} {x : V} {N : List Addr} {J : It} {G : Hp → Prop} {Y : Nat → Hp → V → Hp → Prop} {F : Nat → V → Prop}
theorem lcD (w : Walk J n G Y) (hG : ∀ H', Same H H' → G H') (hy : ∀ i H x H', i < n → Y i H x H' → H' = H ∧ F i x) (hN : Held N H) (es : List PyData) (hl : es.length = n) (few : n ≤ 1000)
    (hs : ∀ i v e D H1, i < n → F i v → es[i]? = some e → Same H H1 → Held (D :: N) H1 → H D = none → ∀ P : VK, (∀ y H2, Same H1 H2 → Dv K (hide (D :: N) H2) y e → P y H2) → te ((σ.set j none).set j (some v)) H1 P)
    (hd : ∀ D ys H1, Same H H1 → H D = none → H1 D = some (.lst ys) → DvAll K (hide N H1) ys es → DvAll K (hide (D :: N) H1) ys es → Q (.ref D) H1) : ∀ D, H D = none → ∃ W : Nat → Nat → Hp → Prop, (∃ m, W 0 m (upd H D (.lst []))) ∧ ∀ i m H, W i m H →
      (J.stop i H ∧ Q (.ref D) H) ∨ (J.go i H ∧ ∃ Nx : Hp → Prop, (∀ H', Nx H' → ∃ m', m' < m ∧ W (i + 1) m' H') ∧ ∀ x H', J.yld i H x H' → gName j x (wipe σ [j]) H' fun σ2 H2 => wipe σ2 [j] = wipe σ [j] ∧ tYes σ2 H2 fun b H3 =>
        if b = true then te σ2 H3 fun y H4 => ∃ acc, H4 D = some (.lst acc) ∧ acc.length < sizeLine ∧ Nx (upd H4 D (.lst (acc ++ [y]))) else Nx H3) := by
  intro D hD
  refine lc_it w (fun i H1 => Same H H1 ∧ ∃ ys, H1 D = some (.lst ys) ∧ DvAll K (hide (D :: N) H1) ys (es.take i)) ⟨same_new hD, [], upd_same, .nil⟩ (fun i H1 _ h => hG H1 h.1) ?_ ?_
  · rintro i x H1 H2 hi ⟨s1, ys, e1, al⟩ hx
    obtain ⟨e0, hF⟩ := hy i _ _ _ hi hx
    subst e0
    refine ⟨wipe1, ?_⟩
    refine r_yes ?_
    refine r_true (c := true) rfl ?_
    have hie : i < es.length := by omega
    have he := List.getElem?_eq_getElem hie
    refine hs i x _ D _ hi hF he s1 ((hN.same s1).cons e1) hD _ fun y H3 s3 dy => ⟨_, s3 _ _ e1, ?_, ?_, _, upd_same, ?_⟩
    · rw [al.len, List.length_take]; exact small_lt (by omega)
    · intro b o e; exact kpO (s3 _ _ (s1 b o e)) (ne_of_none e hD)
    · rw [hide_upd, take_more he]
      exact DvAll.snoc dy (al.same (hide_same s3))
  · rintro H1 ⟨s1, ys, e1, al⟩
    rw [List.take_of_length_le (by omega)] at al
    exact hd D ys H1 s1 hD e1 (al.same hide_less) al
theorem yat {xs : List V} : ∀ (i : Nat) (H : Hp) (x : V) (H' : Hp), i < xs.length → YAt xs i H x H' → H' = H ∧ xs[i]? = some x := fun _ _ _ _ _ h => h
theorem yfn {f : Nat → V} {n : Nat} : ∀ (i : Nat) (H : Hp) (x : V) (H' : Hp), i < n → YFn f i H x H' → H' = H ∧ x = f i := fun _ _ _ _ _ h => h
/-- over a name that holds a list or a tuple; the results' data by the data's -/
theorem lcS2 (hv : σ[i]? = some (some x)) (hx : Sk K H x xs) (hN : Held N H) (es : List PyData) (hl : es.length = xs.length) (few : xs.length ≤ 1000)
    (hs : ∀ i v e D H1, i < xs.length → xs[i]? = some v → es[i]? = some e → Same H H1 → Held (D :: N) H1 → H D = none → ∀ P : VK, (∀ y H2, Same H1 H2 → Dv K (hide (D :: N) H2) y e → P y H2) → te ((σ.set j none).set j (some v)) H1 P)
    (hd : ∀ D ys H1, Same H H1 → H D = none → H1 D = some (.lst ys) → DvAll K (hide N H1) ys es → DvAll K (hide (D :: N) H1) ys es → Q (.ref D) H1) : tLc (fun σ H R => iList K (tVar i) σ H R ∨ iTup K (tVar i) σ H R) (gName j) tYes te [j] σ H Q := by
  obtain ⟨a, rfl, h | h⟩ := hx
  · exact .inl ⟨_, hv, a, rfl, ⟨xs, h⟩, lcD walk_list (fun H' s => s.seq h) yat hN es hl few hs hd⟩
  · exact .inr ⟨_, hv, a, rfl, ⟨xs, h⟩, lcD walk_tup (fun H' s => Jv.Same.sqT s h) yat hN es hl few hs hd⟩
end
/-- results that are truths -/
theorem dv_bools {K : PySem.W.Frag} {H : Hp} : ∀ {ys : List V} {bs : List Bool}, DvAll K H ys (bs.map PyData.bool) → ys = bs.map V.bl
  | [], [], _ => rfl
  | _, b :: bs, .cons (.bl _) r => by rw [dv_bools r]; rfl
theorem dv_intsV {K : PySem.W.Frag} {H : Hp} : ∀ {ys : List V} {ns : List Int}, DvAll K H ys (ns.map PyData.int) → ys = ns.map V.int
  | [], [], _ => rfl
  | _, b :: bs, .cons (.int _) r => by rw [dv_intsV r]; rfl
end Jv

/-! ### comprehensions of two walks over data -/
namespace Jv
open PySem PySem.Spec PyProof.Rows L2
def rowG (g : PyData → PyData) (r : PyData) : List PyData := ((seqD r).getD []).map g
def upTo (g : PyData → PyData) (ds : List PyData) (m n : Nat) : List PyData := (ds.take m).flatMap (rowG g) ++ (((ds[m]?.map (rowG g)).getD []).take n)
theorem upTo_more {g : PyData → PyData} {ds : List PyData} {m n : Nat} {r d : PyData} {l : List PyData} (hr : ds[m]? = some r) (hl : seqD r = some l) (hd : l[n]? = some d) : upTo g ds m (n + 1) = upTo g ds m n ++ [g d] := by
  unfold upTo
  rw [hr, List.append_assoc]
  congr 1
  show (rowG g r).take (n + 1) = (rowG g r).take n ++ [g d]
  refine take_more ?_
  unfold rowG
  rw [hl]
  show (l.map g)[n]? = _
  rw [List.getElem?_map, hd]; rfl
theorem upTo_next {g : PyData → PyData} {ds : List PyData} {m : Nat} {r : PyData} {l : List PyData} (hr : ds[m]? = some r) (hl : seqD r = some l) : upTo g ds m l.length = upTo g ds (m + 1) 0 := by
  unfold upTo
  rw [hr, take_more hr, List.flatMap_append]
  have : (rowG g r).take l.length = rowG g r := by
    unfold rowG; rw [hl]
    exact List.take_of_length_le (by show (l.map g).length ≤ _; rw [List.length_map]; exact Nat.le_refl _)
  show _ ++ (rowG g r).take l.length = _
  rw [this]
  simp
theorem upTo_end {g : PyData → PyData} {ds : List PyData} : upTo g ds ds.length 0 = ds.flatMap (rowG g) := by
  unfold upTo
  simp
theorem flat_len {f : PyData → List PyData} : ∀ {l : List PyData}, (∀ e ∈ l, (f e).length ≤ 100) → (l.flatMap f).length ≤ l.length * 100
  | [], _ => by simp
  | a :: r, h => by
    have h1 := h a List.mem_cons_self
    have h2 := flat_len (l := r) fun e m => h e (List.mem_cons_of_mem _ m)
    rw [List.flatMap_cons, List.length_append, List.length_cons, Nat.succ_mul]; omega
section
variable {K : PySem.W.Frag} {σ : L2.St} {H : Hp} {te : TE} {Q : VK} {xs : List V} {ds : List PyData} {i a b : Nat} {x : V} {N : List Addr}
theorem lc2W {J : It} {G : Hp → Prop} (w : Walk J xs.length G (YAt xs)) (hG : ∀ H', Same H H' → G H') (al : DvAll K H xs ds) (hN : Held N H) (g : PyData → PyData)
    (hq : ∀ e ∈ ds, ∃ l, seqD e = some l ∧ l.length ≤ 100) (few : ds.length ≤ 100)
    (w1 : ∀ v, wipe ((wipe σ [a, b]).set a (some v)) [a, b] = wipe σ [a, b])
    (w2 : ∀ v u, wipe ((wipe ((wipe σ [a, b]).set a (some v)) [b]).set b (some u)) [b] = wipe ((wipe σ [a, b]).set a (some v)) [b])
    (ha : ∀ v, ((wipe σ [a, b]).set a (some v))[a]? = some (some v))
    (hs : ∀ v u d D H1, Dv K H1 u d → (∃ e ∈ ds, ∃ l, seqD e = some l ∧ d ∈ l) → Same H H1 → Held (D :: N) H1 → H D = none → ∀ P : VK, (∀ y H2, Same H1 H2 → Dv K (hide (D :: N) H2) y (g d) → P y H2) → te ((wipe ((wipe σ [a, b]).set a (some v)) [b]).set b (some u)) H1 P)
    (hd : ∀ D ys H1, Same H H1 → H D = none → H1 D = some (.lst ys) → DvAll K (hide N H1) ys (ds.flatMap (rowG g)) → Q (.ref D) H1) :
    ∀ D, H D = none → ∃ W : Nat → Nat → Hp → Prop, (∃ m, W 0 m (upd H D (.lst []))) ∧ ∀ i m H, W i m H →
      (J.stop i H ∧ Q (.ref D) H) ∨ (J.go i H ∧ ∃ Nx : Hp → Prop, (∀ H', Nx H' → ∃ m', m' < m ∧ W (i + 1) m' H') ∧ ∀ x H', J.yld i H x H' → gName a x (wipe σ [a, b]) H' fun σ2 H2 => wipe σ2 [a, b] = wipe σ [a, b] ∧ tYes σ2 H2 fun c H3 =>
        if c = true then (iList K (tVar a) σ2 H3 fun J1 H4 => ∃ W1 : Nat → Nat → Hp → Prop, (∃ m, W1 0 m H4) ∧ ∀ j k H, W1 j k H →
          (J1.stop j H ∧ Nx H) ∨ (J1.go j H ∧ ∃ Nx1 : Hp → Prop, (∀ H', Nx1 H' → ∃ k', k' < k ∧ W1 (j + 1) k' H') ∧ ∀ x H', J1.yld j H x H' → gName b x (wipe σ2 [b]) H' fun σ3 H5 => wipe σ3 [b] = wipe σ2 [b] ∧ tYes σ3 H5 fun c H6 =>
            if c = true then te σ3 H6 fun y H7 => ∃ acc, H7 D = some (.lst acc) ∧ acc.length < sizeLine ∧ Nx1 (upd H7 D (.lst (acc ++ [y]))) else Nx1 H6)) ∨ (iTup K (tVar a) σ2 H3 fun J1 H4 => ∃ W1 : Nat → Nat → Hp → Prop, (∃ m, W1 0 m H4) ∧ ∀ j k H, W1 j k H →
          (J1.stop j H ∧ Nx H) ∨ (J1.go j H ∧ ∃ Nx1 : Hp → Prop, (∀ H', Nx1 H' → ∃ k', k' < k ∧ W1 (j + 1) k' H') ∧ ∀ x H', J1.yld j H x H' → gName b x (wipe σ2 [b]) H' fun σ3 H5 => wipe σ3 [b] = wipe σ2 [b] ∧ tYes σ3 H5 fun c H6 =>
            if c = true then te σ3 H6 fun y H7 => ∃ acc, H7 D = some (.lst acc) ∧ acc.length < sizeLine ∧ Nx1 (upd H7 D (.lst (acc ++ [y]))) else Nx1 H6))
        else Nx H3) := by
  intro D hD
  have hlen := al.len
  have bound : ∀ m n, (upTo g ds m n).length < 20000 := by
    intro m n
    unfold upTo
    rw [List.length_append, List.length_take]
    have row : ∀ e ∈ ds, (rowG g e).length ≤ 100 := fun e he => by
      obtain ⟨l, h1, h2⟩ := hq e he
      unfold rowG; rw [h1]; show (l.map g).length ≤ 100; rw [List.length_map]; exact h2
    have h1 := flat_len (f := rowG g) (l := ds.take m) fun e he => row e (List.mem_of_mem_take he)
    have h2 : (ds.take m).length ≤ 100 := by rw [List.length_take]; omega
    have h3 : ((ds[m]?.map (rowG g)).getD []).length ≤ 100 := by
      cases e : ds[m]? with
      | none => simp
      | some r => exact row r (List.mem_of_getElem? e)
    omega
  refine ⟨fun m k H1 => k = xs.length - m ∧ m ≤ xs.length ∧ Same H H1 ∧ ∃ ys, H1 D = some (.lst ys) ∧ DvAll K (hide (D :: N) H1) ys (upTo g ds m 0), ⟨xs.length, by omega, by omega, same_new hD, [], upd_same, by unfold upTo; simp; exact .nil⟩, ?_⟩
  rintro m k H1 ⟨rfl, hm, s1, ys, e1, dv⟩
  by_cases lt : m < xs.length
  · refine .inr ⟨w.goes m H1 lt (hG _ s1), fun H' => Same H H' ∧ ∃ ys, H' D = some (.lst ys) ∧ DvAll K (hide (D :: N) H') ys (upTo g ds (m + 1) 0), fun H' h => ⟨xs.length - (m + 1), by omega, rfl, lt, h⟩, ?_⟩
    rintro v H2 hv0
    obtain ⟨e2, hv⟩ := w.yields m H1 v H2 lt (hG _ s1) hv0
    subst e2
    obtain ⟨r, hr, dr⟩ := al.at hv
    have hrm := List.mem_of_getElem? hr
    obtain ⟨l, hl, fl⟩ := hq r hrm
    refine ⟨w1 _, r_yes (r_true (c := true) rfl ?_)⟩
    obtain ⟨us, ⟨p, ep, hp⟩, du⟩ := dr.sk hl
    subst ep
    have hul := du.len
    have core : ∀ (J1 : It) (G1 : Hp → Prop), Walk J1 us.length G1 (YAt us) → (∀ H', Same H H' → G1 H') → ∃ W1 : Nat → Nat → Hp → Prop, (∃ m, W1 0 m H2) ∧ ∀ j k H5, W1 j k H5 →
        (J1.stop j H5 ∧ (Same H H5 ∧ ∃ ys, H5 D = some (.lst ys) ∧ DvAll K (hide (D :: N) H5) ys (upTo g ds (m + 1) 0))) ∨ (J1.go j H5 ∧ ∃ Nx1 : Hp → Prop, (∀ H', Nx1 H' → ∃ k', k' < k ∧ W1 (j + 1) k' H') ∧ ∀ x H', J1.yld j H5 x H' → gName b x (wipe ((wipe σ [a, b]).set a (some (.ref p))) [b]) H' fun σ3 H5 => wipe σ3 [b] = wipe ((wipe σ [a, b]).set a (some (.ref p))) [b] ∧ tYes σ3 H5 fun c H6 =>
          if c = true then te σ3 H6 fun y H7 => ∃ acc, H7 D = some (.lst acc) ∧ acc.length < sizeLine ∧ Nx1 (upd H7 D (.lst (acc ++ [y]))) else Nx1 H6) := by
      intro J1 G1 wk hG1
      refine ⟨fun j k H5 => k = us.length - j ∧ j ≤ us.length ∧ Same H H5 ∧ ∃ ys, H5 D = some (.lst ys) ∧ DvAll K (hide (D :: N) H5) ys (upTo g ds m j), ⟨us.length, by omega, by omega, s1, ys, e1, dv⟩, ?_⟩
      rintro j k H5 ⟨rfl, hj, s5, zs, e5, dz⟩
      by_cases lt2 : j < us.length
      · refine .inr ⟨wk.goes j H5 lt2 (hG1 _ s5), fun H' => Same H H' ∧ ∃ ys, H' D = some (.lst ys) ∧ DvAll K (hide (D :: N) H') ys (upTo g ds m (j + 1)), fun H' h => ⟨us.length - (j + 1), by omega, rfl, lt2, h⟩, ?_⟩
        rintro u H6 hu0
        obtain ⟨e6, hu⟩ := wk.yields j H5 u H6 lt2 (hG1 _ s5) hu0
        subst e6
        obtain ⟨d, hd1, dd⟩ := du.at hu
        refine ⟨w2 _ _, r_yes (r_true (c := true) rfl ?_)⟩
        refine hs _ _ d D _ (dd.same s5) ⟨r, hrm, l, hl, List.mem_of_getElem? hd1⟩ s5 ((hN.same s5).cons e5) hD _ fun y H7 s7 dy => ⟨_, s7 _ _ e5, ?_, ?_, _, upd_same, ?_⟩
        · rw [dz.len]
          exact Nat.lt_of_lt_of_le (bound m j) (by decide)
        · intro c o hc; exact kpO (s7 _ _ (s5 c o hc)) (ne_of_none hc hD)
        · rw [hide_upd, upTo_more hr hl hd1]
          exact DvAll.snoc dy (dz.same (hide_same s7))
      · have ej : j = l.length := by omega
        subst ej
        refine .inl ⟨by rw [← hul]; exact wk.stops H5 (hG1 _ s5), s5, zs, e5, ?_⟩
        rw [← upTo_next hr hl]; exact dz
    rcases hp with hp | hp
    · exact .inl ⟨_, ha _, p, rfl, ⟨us, s1.seq hp⟩, core _ _ walk_list fun H' s => s.seq hp⟩
    · exact .inr ⟨_, ha _, p, rfl, ⟨us, Jv.Same.sqT s1 hp⟩, core _ _ walk_tup fun H' s => Jv.Same.sqT s hp⟩
  · have em : m = xs.length := by omega
    subst em
    refine .inl ⟨w.stops H1 (hG _ s1), hd D ys H1 s1 hD e1 ?_⟩
    rw [hlen, upTo_end] at dv
    exact dv.same hide_less
theorem lc2D (hv : σ[i]? = some (some x)) (hx : Sk K H x xs) (al : DvAll K H xs ds) (hN : Held N H) (g : PyData → PyData)
    (hq : ∀ e ∈ ds, ∃ l, seqD e = some l ∧ l.length ≤ 100) (few : ds.length ≤ 100)
    (w1 : ∀ v, wipe ((wipe σ [a, b]).set a (some v)) [a, b] = wipe σ [a, b])
    (w2 : ∀ v u, wipe ((wipe ((wipe σ [a, b]).set a (some v)) [b]).set b (some u)) [b] = wipe ((wipe σ [a, b]).set a (some v)) [b])
    (ha : ∀ v, ((wipe σ [a, b]).set a (some v))[a]? = some (some v))
    (hs : ∀ v u d D H1, Dv K H1 u d → (∃ e ∈ ds, ∃ l, seqD e = some l ∧ d ∈ l) → Same H H1 → Held (D :: N) H1 → H D = none → ∀ P : VK, (∀ y H2, Same H1 H2 → Dv K (hide (D :: N) H2) y (g d) → P y H2) → te ((wipe ((wipe σ [a, b]).set a (some v)) [b]).set b (some u)) H1 P)
    (hd : ∀ D ys H1, Same H H1 → H D = none → H1 D = some (.lst ys) → DvAll K (hide N H1) ys (ds.flatMap (rowG g)) → Q (.ref D) H1) :
    tLc2 (fun σ H R => iList K (tVar i) σ H R ∨ iTup K (tVar i) σ H R) (gName a) tYes (fun σ H R => iList K (tVar a) σ H R ∨ iTup K (tVar a) σ H R) (gName b) tYes te [a, b] [b] σ H Q := by
  obtain ⟨p, rfl, h | h⟩ := hx
  · exact .inl ⟨_, hv, p, rfl, ⟨xs, h⟩, lc2W walk_list (fun H' s => s.seq h) al hN g hq few w1 w2 ha hs hd⟩
  · exact .inr ⟨_, hv, p, rfl, ⟨xs, h⟩, lc2W walk_tup (fun H' s => Jv.Same.sqT s h) al hN g hq few w1 w2 ha hs hd⟩
end
end Jv

/-! ### data beside an object's change; readings of fields -/
namespace Jv
open PySem PySem.Spec PyProof.Rows L2
section
variable {K : PySem.W.Frag} {H : Hp} {a C dx : Addr} {fs : List (Str × V)} {o : HO}
theorem SqT.ins (ha : H a = some (.ins C dx fs)) {b : Addr} {xs : List V} (h : SqT K H b xs) : SqT K (upd H a o) b xs := by
  rcases h with (h | ⟨u, h⟩) | h
  · exact .inl (.inl (kpO h fun e => by rw [e, ha] at h; cases h))
  · exact .inl (.inr ⟨u, kpO h fun e => by rw [e, ha] at h; cases h⟩)
  · exact .inr h
mutual
theorem Dv.ins (ha : H a = some (.ins C dx fs)) : ∀ {v : V} {d : PyData}, Dv K H v d → Dv K (upd H a o) v d
  | _, _, .non => .non
  | _, _, .bl b => .bl b
  | _, _, .int i => .int i
  | _, _, .str x => .str x
  | _, _, .lst h q => .lst (kpO h fun e => by rw [e, ha] at h; cases h) (DvAll.ins ha q)
  | _, _, .tup h q => .tup (Jv.SqT.ins ha h) (DvAll.ins ha q)
theorem DvAll.ins (ha : H a = some (.ins C dx fs)) : ∀ {vs : List V} {ds : List PyData}, DvAll K H vs ds → DvAll K (upd H a o) vs ds
  | _, _, .nil => .nil
  | _, _, .cons x y => .cons (Dv.ins ha x) (DvAll.ins ha y)
end
theorem r_sfld {ta tv : TE} {f : Str} {D : Ends} {σ : L2.St} (h : tv σ H fun y H1 => ta σ H1 fun x H2 => ∃ a C dx fs, x = .ref a ∧ H2 a = some (.ins C dx fs) ∧ Cls K C ∧ NoAttr K C f ∧ fs.length < 1000 ∧
  D.nx σ (upd H2 a (.ins C dx (putF f y fs)))) : sFld K ta tv f D σ H := h
theorem r_fld {ta : TE} {f : Str} {σ : L2.St} {Q : VK} (h : ta σ H fun x H1 => ∃ a C dx fs v, x = .ref a ∧ H1 a = some (.ins C dx fs) ∧ Cls K C ∧ NoAttr K C f ∧ fs.lookup f = some v ∧ Q v H1) : tFld K ta f σ H Q := h
end
/-- a new tuple of data -/
theorem dv_new {K : PySem.W.Frag} {H : Hp} {N : List Addr} {t : Addr} {xs : List V} {ds : List PyData} (n : H t = none) (hN : Held N H) (h : DvAll K (hide N H) xs ds) : Dv K (hide N (upd H t (.tup xs))) (.ref t) (.tuple ds) :=
  .tup (sqT_at (hide_at (hN.new n) upd_same)) (h.same (hide_same (same_new n)))
theorem dv_newL {K : PySem.W.Frag} {H : Hp} {N : List Addr} {t : Addr} {xs : List V} {ds : List PyData} (n : H t = none) (hN : Held N H) (h : DvAll K (hide N H) xs ds) : Dv K (hide N (upd H t (.lst xs))) (.ref t) (.list ds) :=
  .lst (hide_at (hN.new n) upd_same) (h.same (hide_same (same_new n)))
end Jv

/-! ### comprehensions over what an expression gives; filters of numbers -/
namespace Jv
open PySem PySem.Spec PyProof.Rows L2
section
variable {K : PySem.W.Frag} {σ : L2.St} {H : Hp} {te te0 : TE} {tt : TT} {Q : VK} {xs : List V} {es : List PyData} {j i n : Nat} {x : V} {N : List Addr}
theorem lcS3 (hit : ∀ P : VK, P x H → te0 σ H P) (hx : Sk K H x xs) (hN : Held N H) (es : List PyData) (hl : es.length = xs.length) (few : xs.length ≤ 1000)
    (hs : ∀ i v e D H1, i < xs.length → xs[i]? = some v → es[i]? = some e → Same H H1 → Held (D :: N) H1 → H D = none → ∀ P : VK, (∀ y H2, Same H1 H2 → Dv K (hide (D :: N) H2) y e → P y H2) → te ((σ.set j none).set j (some v)) H1 P)
    (hd : ∀ D ys H1, Same H H1 → H D = none → H1 D = some (.lst ys) → DvAll K (hide N H1) ys es → DvAll K (hide (D :: N) H1) ys es → Q (.ref D) H1) : tLc (fun σ H R => iList K te0 σ H R ∨ iTup K te0 σ H R) (gName j) tYes te [j] σ H Q := by
  obtain ⟨a, rfl, h | h⟩ := hx
  · exact .inl (hit _ ⟨a, rfl, ⟨xs, h⟩, lcD walk_list (fun H' s => s.seq h) yat hN es hl few hs hd⟩)
  · exact .inr (hit _ ⟨a, rfl, ⟨xs, h⟩, lcD walk_tup (fun H' s => Jv.Same.sqT s h) yat hN es hl few hs hd⟩)
theorem filter_more {f : Int → Bool} {ns : List Int} {i : Nat} {z : Int} (h : ns[i]? = some z) : (ns.take (i + 1)).filter f = (ns.take i).filter f ++ if f z = true then [z] else [] := by
  rw [take_more h, List.filter_append]
  congr 1
  by_cases c : f z = true
  · simp [c]
  · simp [c]
/-- the numbers of a list or a tuple at which a test holds -/
theorem lcFW {J : It} {G : Hp → Prop} {ns : List Int} (w : Walk J (ns.map V.int).length G (YAt (ns.map V.int))) (hG : ∀ H', Same H H' → G H') (f : Int → Bool) (few : ns.length ≤ 1000)
    (ht : ∀ z H1, z ∈ ns → Same H H1 → ∀ R : Bool → Hp → Prop, (∀ H2, Same H1 H2 → R (f z) H2) → tt ((σ.set j none).set j (some (.int z))) H1 R)
    (hs : ∀ z H1, ∀ P : VK, P (.int z) H1 → te ((σ.set j none).set j (some (.int z))) H1 P)
    (hd : ∀ D H1, Same H H1 → H D = none → H1 D = some (.lst ((ns.filter f).map V.int)) → Q (.ref D) H1) : ∀ D, H D = none → ∃ W : Nat → Nat → Hp → Prop, (∃ m, W 0 m (upd H D (.lst []))) ∧ ∀ i m H, W i m H →
      (J.stop i H ∧ Q (.ref D) H) ∨ (J.go i H ∧ ∃ Nx : Hp → Prop, (∀ H', Nx H' → ∃ m', m' < m ∧ W (i + 1) m' H') ∧ ∀ x H', J.yld i H x H' → gName j x (wipe σ [j]) H' fun σ2 H2 => wipe σ2 [j] = wipe σ [j] ∧ tt σ2 H2 fun b H3 =>
        if b = true then te σ2 H3 fun y H4 => ∃ acc, H4 D = some (.lst acc) ∧ acc.length < sizeLine ∧ Nx (upd H4 D (.lst (acc ++ [y]))) else Nx H3) := by
  intro D hD
  refine lc_it w (fun i H1 => Same H H1 ∧ H1 D = some (.lst (((ns.take i).filter f).map V.int))) ⟨same_new hD, upd_same⟩ (fun i H1 _ h => hG H1 h.1) ?_ ?_
  · rintro i x H1 H2 hi ⟨s1, e1⟩ ⟨e0, hx⟩
    subst e0
    obtain ⟨z, hz, rfl⟩ := map_at hx
    refine ⟨wipe1, ht z _ (List.mem_of_getElem? hz) s1 _ fun H3 s3 => ?_⟩
    have e3 := s3 _ _ e1
    by_cases c : f z = true
    · rw [if_pos c]
      refine hs z H3 _ ⟨_, e3, ?_, fun b o e => kpO (s3 _ _ (s1 b o e)) (ne_of_none e hD), ?_⟩
      · rw [List.length_map]
        refine small_lt (Nat.lt_of_le_of_lt (List.length_filter_le _ _) ?_)
        rw [List.length_map] at hi
        rw [List.length_take]; omega
      · rw [upd_same, filter_more hz, if_pos c, List.map_append]; rfl
    · rw [if_neg c]
      refine ⟨s1.trans s3, ?_⟩
      rw [filter_more hz, if_neg c, List.append_nil]; exact e3
  · rintro H1 ⟨s1, e1⟩
    rw [List.length_map, List.take_length] at e1
    exact hd D H1 s1 hD e1
theorem lcF2 {ns : List Int} (hv : σ[i]? = some (some x)) (hx : Sk K H x (ns.map V.int)) (f : Int → Bool) (few : ns.length ≤ 1000)
    (ht : ∀ z H1, z ∈ ns → Same H H1 → ∀ R : Bool → Hp → Prop, (∀ H2, Same H1 H2 → R (f z) H2) → tt ((σ.set j none).set j (some (.int z))) H1 R)
    (hs : ∀ z H1, ∀ P : VK, P (.int z) H1 → te ((σ.set j none).set j (some (.int z))) H1 P)
    (hd : ∀ D H1, Same H H1 → H D = none → H1 D = some (.lst ((ns.filter f).map V.int)) → Q (.ref D) H1) : tLc (fun σ H R => iList K (tVar i) σ H R ∨ iTup K (tVar i) σ H R) (gName j) tt te [j] σ H Q := by
  obtain ⟨a, rfl, h | h⟩ := hx
  · exact .inl ⟨_, hv, a, rfl, ⟨_, h⟩, lcFW walk_list (fun H' s => s.seq h) f few ht hs hd⟩
  · exact .inr ⟨_, hv, a, rfl, ⟨_, h⟩, lcFW walk_tup (fun H' s => Jv.Same.sqT s h) f few ht hs hd⟩
end
end Jv

/-! ### comprehensions whose results are lists of the program's own -/
namespace Jv
open PySem PySem.Spec PyProof.Rows L2
section
variable {K : PySem.W.Frag} {σ : L2.St} {H : Hp} {te te0 : TE} {tt : TT} {Q : VK} {xs : List V} {j n : Nat} {x : V} {J : It} {G : Hp → Prop} {Y : Nat → Hp → V → Hp → Prop} {Fx : Nat → V → Prop} {F : Nat → List V}
theorem lcOwnD (w : Walk J n G Y) (hG : ∀ H', Same H H' → G H') (hy : ∀ i H x H', i < n → Y i H x H' → H' = H ∧ Fx i x) (F : Nat → List V) (few : n ≤ 1000)
    (hs : ∀ i v D H1, i < n → Fx i v → Same H H1 → H D = none → ∀ P : VK, (∀ t H2, H1 t = none → Same H1 H2 → H2 t = some (.lst (F i)) → P (.ref t) H2) → te ((σ.set j none).set j (some v)) H1 P)
    (hd : ∀ D (As : List Addr) H1, Same H H1 → H D = none → As.length = n → As.Nodup → D ∉ As → (∀ b ∈ As, H b = none) → H1 D = some (.lst (As.map V.ref)) → (∀ (k : Nat) b, As[k]? = some b → H1 b = some (.lst (F k))) → Q (.ref D) H1) : ∀ D, H D = none → ∃ W : Nat → Nat → Hp → Prop, (∃ m, W 0 m (upd H D (.lst []))) ∧ ∀ i m H, W i m H →
      (J.stop i H ∧ Q (.ref D) H) ∨ (J.go i H ∧ ∃ Nx : Hp → Prop, (∀ H', Nx H' → ∃ m', m' < m ∧ W (i + 1) m' H') ∧ ∀ x H', J.yld i H x H' → gName j x (wipe σ [j]) H' fun σ2 H2 => wipe σ2 [j] = wipe σ [j] ∧ tYes σ2 H2 fun b H3 =>
        if b = true then te σ2 H3 fun y H4 => ∃ acc, H4 D = some (.lst acc) ∧ acc.length < sizeLine ∧ Nx (upd H4 D (.lst (acc ++ [y]))) else Nx H3) := by
  intro D hD
  refine lc_it w (fun i H1 => Same H H1 ∧ ∃ As : List Addr, As.length = i ∧ As.Nodup ∧ D ∉ As ∧ (∀ b ∈ As, H b = none) ∧ H1 D = some (.lst (As.map V.ref)) ∧ ∀ (k : Nat) b, As[k]? = some b → H1 b = some (.lst (F k)))
    ⟨same_new hD, [], rfl, List.nodup_nil, List.not_mem_nil, fun b m => (by cases m), upd_same, fun k b e => (by simp at e)⟩ (fun i H1 _ h => hG H1 h.1) ?_ ?_
  · rintro i x H1 H2 hi ⟨s1, As, e0, nd, nD, hn, e1, al⟩ hx
    obtain ⟨e2, hF⟩ := hy i _ _ _ hi hx
    subst e2
    refine ⟨wipe1, ?_⟩
    refine r_yes ?_
    refine r_true (c := true) rfl ?_
    refine hs i x D _ hi hF s1 hD _ fun t H3 ht s3 et => ?_
    have htA : t ∉ As := fun m => by
      obtain ⟨k, hk, e⟩ := List.getElem_of_mem m
      have := al k t (by rw [List.getElem?_eq_getElem hk, e])
      rw [ht] at this; cases this
    have htD : t ≠ D := fun e => by rw [e, e1] at ht; cases ht
    have htH : H t = none := s1.free ht
    refine ⟨_, s3 _ _ e1, ?_, fun b o e => kpO (s3 _ _ (s1 b o e)) (ne_of_none e hD), As ++ [t], by rw [List.length_append, e0]; rfl, ?_, ?_, ?_, by rw [upd_same, List.map_append]; rfl, ?_⟩
    · rw [List.length_map, e0]; exact small_lt (by omega)
    · refine List.nodup_append.mpr ⟨nd, by simp, fun a ha b hb => ?_⟩
      rw [List.mem_singleton.mp hb]
      exact fun e => htA (e ▸ ha)
    · intro m
      rcases List.mem_append.mp m with m | m
      · exact nD m
      · exact htD (List.mem_singleton.mp m).symm
    · intro b m
      rcases List.mem_append.mp m with m | m
      · exact hn b m
      · rw [List.mem_singleton.mp m]; exact htH
    · intro k b e
      have nb : b ≠ D := fun eb => by
        rw [eb] at e
        rcases List.mem_append.mp (List.mem_of_getElem? e) with m | m
        · exact nD m
        · exact htD (List.mem_singleton.mp m).symm
      rw [upd_ne nb]
      by_cases hk : k < As.length
      · rw [List.getElem?_append_left hk] at e
        exact s3 _ _ (al k b e)
      · have h2 := (List.getElem?_eq_some_iff.mp e).1
        rw [List.length_append] at h2
        have h3 : k = As.length := by simp at h2; omega
        subst h3
        rw [List.getElem?_append_right (Nat.le_refl _), Nat.sub_self] at e
        cases e
        rw [e0]; exact et
  · rintro H1 ⟨s1, As, e0, nd, nD, hn, e1, al⟩
    exact hd D As H1 s1 hD e0 nd nD hn e1 al
/-- over what an expression gives -/
theorem lcOwn (hit : ∀ P : VK, P x H → te0 σ H P) (hx : Sk K H x xs) (F : Nat → List V) (few : xs.length ≤ 1000)
    (hs : ∀ i v D H1, i < xs.length → xs[i]? = some v → Same H H1 → H D = none → ∀ P : VK, (∀ t H2, H1 t = none → Same H1 H2 → H2 t = some (.lst (F i)) → P (.ref t) H2) → te ((σ.set j none).set j (some v)) H1 P)
    (hd : ∀ D (As : List Addr) H1, Same H H1 → H D = none → As.length = xs.length → As.Nodup → D ∉ As → (∀ b ∈ As, H b = none) → H1 D = some (.lst (As.map V.ref)) → (∀ (k : Nat) b, As[k]? = some b → H1 b = some (.lst (F k))) → Q (.ref D) H1) : tLc (fun σ H R => iList K te0 σ H R ∨ iTup K te0 σ H R) (gName j) tYes te [j] σ H Q := by
  obtain ⟨a, rfl, h | h⟩ := hx
  · exact .inl (hit _ ⟨a, rfl, ⟨xs, h⟩, lcOwnD walk_list (fun H' s => s.seq h) yat F few hs hd⟩)
  · exact .inr (hit _ ⟨a, rfl, ⟨xs, h⟩, lcOwnD walk_tup (fun H' s => Jv.Same.sqT s h) yat F few hs hd⟩)
theorem lcOwn2 {i : Nat} (hv : σ[i]? = some (some x)) (hx : Sk K H x xs) (F : Nat → List V) (few : xs.length ≤ 1000)
    (hs : ∀ i v D H1, i < xs.length → xs[i]? = some v → Same H H1 → H D = none → ∀ P : VK, (∀ t H2, H1 t = none → Same H1 H2 → H2 t = some (.lst (F i)) → P (.ref t) H2) → te ((σ.set j none).set j (some v)) H1 P)
    (hd : ∀ D (As : List Addr) H1, Same H H1 → H D = none → As.length = xs.length → As.Nodup → D ∉ As → (∀ b ∈ As, H b = none) → H1 D = some (.lst (As.map V.ref)) → (∀ (k : Nat) b, As[k]? = some b → H1 b = some (.lst (F k))) → Q (.ref D) H1) : tLc (fun σ H R => iList K (tVar i) σ H R ∨ iTup K (tVar i) σ H R) (gName j) tYes te [j] σ H Q :=
  lcOwn (fun P hP => ⟨_, hv, hP⟩) hx F few hs hd
end
/-- data, item by item -/
theorem dvAll_mk {K : PySem.W.Frag} {H : Hp} : ∀ {vs : List V} {ds : List PyData}, vs.length = ds.length → (∀ (i : Nat) v d, vs[i]? = some v → ds[i]? = some d → Dv K H v d) → DvAll K H vs ds
  | [], [], _, _ => .nil
  | v :: vs, d :: ds, hl, h => .cons (h 0 v d rfl rfl) (dvAll_mk (by simpa using hl) fun i v d h1 h2 => h (i + 1) v d h1 h2)
/-- what each item of a row of rows holds -/
theorem rows_of {K : PySem.W.Frag} {H : Hp} {vs : List V} {ds : List PyData} (h : DvAll K H vs ds) (hs : ∀ d ∈ ds, (seqD d).isSome = true) : ∃ F : Nat → List V, ∀ (i : Nat) v d, vs[i]? = some v → ds[i]? = some d → Sk K H v (F i) ∧ ∃ es, seqD d = some es ∧ DvAll K H (F i) es := by
  have h1 : ∀ i : Nat, ∃ X : List V, ∀ v d, vs[i]? = some v → ds[i]? = some d → Sk K H v X ∧ ∃ es, seqD d = some es ∧ DvAll K H X es := fun i => by
    cases e : vs[i]? with
    | none => exact ⟨[], fun v d h _ => by cases h⟩
    | some v =>
      obtain ⟨d, e2, hd⟩ := h.at e
      obtain ⟨es, e3⟩ := Option.isSome_iff_exists.mp (hs d (List.mem_of_getElem? e2))
      obtain ⟨X, k1, k2⟩ := hd.sk e3
      refine ⟨X, fun v' d' h1 h2 => ?_⟩
      cases h1
      rw [e2] at h2; cases h2
      exact ⟨k1, es, e3, k2⟩
  exact ⟨fun i => Classical.choose (h1 i), fun i => Classical.choose_spec (h1 i)⟩
end Jv

/-! ### several except clauses, some with a name -/
namespace Jv
open PySem PySem.Spec PyProof.Rows L2
/-- a suite with the exception's name at slot i -/
def sNamed (i : Nat) (ts : Addr → Value → Option Addr → TS) : Addr → Value → Option Addr → TS := fun e k d D τ H =>
  ts e k d { nx := fun ρ G => D.nx (ρ.set i none) G, rt := D.rt, bk := fun ρ G => D.bk (ρ.set i none) G, ct := fun ρ G => D.ct (ρ.set i none) G } (τ.set i (some (.ref e))) H
inductive Cls2 (X : Cx) : List ExceptHandler → List (Value × (Addr → Value → Option Addr → TS)) → Prop
  | nil : Cls2 X [] []
  | bare {nm : Str} {k : Value} {ts : Addr → Value → Option Addr → TS} {st : Stmt} {sts : List Stmt} {p1 p2 : Pos} {hl : List ExceptHandler} {wl : List (Value × (Addr → Value → Option Addr → TS))} (hk : Names X nm k)
      (su : ∀ (e : Addr) (ob : Obj) (kd : Value) (d : Option Addr) (pq : List (Addr × Obj)), Zc kd d ob → (∃ fs, ob.data = .fields fs) → PSs (X.suite e ((e, ob) :: pq)) (st :: sts) (ts e kd d)) (more : Cls2 X hl wl) :
      Cls2 X (.ExceptHandler (some (.Name nm p1)) none (st :: sts) p2 :: hl) ((k, ts) :: wl)
  | named {nm n : Str} {i : Nat} {k : Value} {ts : Addr → Value → Option Addr → TS} {st : Stmt} {sts : List Stmt} {p1 p2 : Pos} {hl : List ExceptHandler} {wl : List (Value × (Addr → Value → Option Addr → TS))} (nd : X.N.Nodup) (ix : X.N[i]? = some n) (lc : X.env.kindOf n = some .local) (hk : Names X nm k)
      (su : ∀ (e : Addr) (ob : Obj) (kd : Value) (d : Option Addr) (pq : List (Addr × Obj)), Zc kd d ob → (∃ fs, ob.data = .fields fs) → PSs (X.suite e ((e, ob) :: pq)) (st :: sts) (ts e kd d)) (more : Cls2 X hl wl) :
      Cls2 X (.ExceptHandler (some (.Name nm p1)) (some n) (st :: sts) p2 :: hl) ((k, sNamed i ts) :: wl)
section
variable {X : Cx} {body : List Stmt} {h1 : ExceptHandler} {hl : List ExceptHandler} {wl : List (Value × (Addr → Value → Option Addr → TS))} {pos : Pos} {tb : WX → TS} {Wo : WX}
theorem ps_tryMix (hst : X.stack = X.env :: X.outer) (hfr0 : X.env.frame = some X.env.locals) (tk : Takes X Wo) (hh : Cls2 X (h1 :: hl) wl)
    (hb : ∀ (W : WX) (pq : List (Addr × Obj)) (xe : Value → Shared → Prop), Takes (X.tr pq xe) W → PassesOwn (model X.prog X.w) X.A X.env xe → PSs (X.tr pq xe) body (tb W)) :
    PS X (.Try body (h1 :: hl) [] [] pos) (fun D τ H => tb (wMany X.K Wo D wl) D τ H) := by
  refine ⟨fun pins s τ H D I wish => ?_⟩
  have iok := I.ok
  have afr : X.A.frames = some (X.env :: X.outer) := by rw [iok.frames, hst]
  refine wpAny_Try_except ?_
  refine wpAny_mono ((hb (wMany X.K Wo D wl) (X.pn ++ pins) (fun u r1 => wpAny (model X.prog X.w) X.A (noteFrame u X.env) (fun _ r2 => wpAny (model X.prog X.w) X.A (setFlight u none) (fun _ r3 =>
    wpAny (model X.prog X.w) X.A (handleBy u X.env (h1 :: hl)) (SP X pins D) X.xe r3) X.xe r2) X.xe r1) (fun u t xx => ?_) PassesOwn.looking).run [] s τ H D (I.toTry _) wish) (fun f t hsp => ?_) (fun u t he => he)
  · obtain ⟨e, B, sI, pq, ρ, G, kd, d, rfl, J0, nb, up, sky0, ne, os, ag, w⟩ := xx
    have J : Inv X pins ρ G sI := J0.ofTry iok
    have sky : Sky B (X.env :: X.outer) e (Zc kd d) X.env.locals t.heap := by rw [← hst]; exact sky0
    show wpAny (model X.prog X.w) X.A (noteFrame (.ref e) X.env) _ _ _
    refine Sky.land Zc.steady afr hfr0 sky fun g3 fl3 up3 => ?_
    have J3 : Inv X pins ρ G { t with heap := g3 } := J.landed nb fl3.1 (up.trans up3) os ag
    obtain ⟨ob3, fs3, at3, z3, dt3⟩ := fl3.there
    have notIn : e ∉ frs (X.env :: X.outer) := fun m => by
      obtain ⟨_, ob, at', hn⟩ := fl3.2.2.1.mem m
      rw [at3] at at'; cases at'
      exact hn _ dt3
    have nLoc : e ≠ X.env.locals := fun z => notIn (List.mem_filterMap.mpr ⟨X.env, List.mem_cons_self, by rw [hfr0, z]⟩)
    have nFs : e ∉ X.fs := fun m => by
      obtain ⟨v, hv, q⟩ := List.mem_filterMap.mp m
      exact notIn (List.mem_filterMap.mpr ⟨v, List.mem_cons_of_mem _ hv, q⟩)
    have S3 := J3.suite at3 dt3 ne nLoc nFs
    have look : PySem.W.Looks (model X.prog X.w) g3 (typeOf (.ref e)) kd := fun A Q E r k q => wpAny_typeOf_ref (k _ _ at3) (by rw [z3.1]; exact q)
    have test : ∀ {nm : Str} {p1 : Pos} {k : Value} {Q : Value → Shared → Prop} {E : Value → Shared → Prop}, Names X nm k → Q k { t with heap := g3 } → wpAny (model X.prog X.w) (X.A.mark (some (.ref e))) (eval (.Name nm p1) X.env) Q E { t with heap := g3 } := fun {nm p1 k Q E} hk q => by
      obtain ⟨hg, hdb, hm | ⟨hm, hv, hnn⟩⟩ := hk
      · exact ld_glob (X := X.suite e ((e, ob3) :: (X.pn ++ pins))) S3 hg hm q hdb
      · exact ld_blt (X := X.suite e ((e, ob3) :: (X.pn ++ pins))) S3 hg hm hv q hnn hdb
    have all : ∀ {hl2 : List ExceptHandler} {wl2 : List (Value × (Addr → Value → Option Addr → TS))}, Cls2 X hl2 wl2 → wMany X.K Wo D wl2 kd d ρ G →
        wpAny (model X.prog X.w) X.A (handleBy (.ref e) X.env hl2) (SP X pins D) X.xe { t with heap := g3 } := by
      intro hl2 wl2 hc
      induction hc with
      | nil =>
        intro w
        refine wpAny_handleBy_nil ?_
        obtain ⟨k1, k2, k3, ob, fs, T, oT, us, he, hz, hd, hh1, hr⟩ := id fl3
        unfold PySem.passOn
        refine wpAny_bind (wpAny_field he hd hh1 ?_)
        rw [if_neg (show ¬ ((Value.ref T == Value.none) = true) from by simp)]
        have fin : wpAny (model X.prog X.w) X.A (setFlight (.ref e) X.env.frame) (fun _ r4 => wpAny (model X.prog X.w) X.A (throw (.ref e) : Sem Flow) (SP X pins D) X.xe r4) X.xe { t with heap := g3 } := by
          rw [hfr0]
          refine HandSPX.setFlight_upZ fl3 fun g4 hg4 up4 => wpAny_throw (tk _ _ ?_)
          exact ⟨e, B, sI, pins, ρ, G, kd, d, rfl, J, nb, (up.trans up3).trans up4, .inr (.inr (by rw [hst]; exact hg4)), ne, os, ag, w⟩
        first
          | exact wpAny_bind (wpAny_pure (wpAny_bind fin))
          | exact wpAny_bind fin
      | @bare nm k ts st sts p1 p2 hl3 wl3 hk su more ih =>
        intro w
        obtain ⟨b, hb1, yes, no⟩ := w
        refine wpAny_handleBy_cons (codeAny_handlers_test ?_) (by intro q; cases q)
        refine test hk ((PySem.W.exm_one (M := model X.prog X.w) (J3.kIn) look hb1).here ?_)
        cases b with
        | true =>
          refine codeAny_handlers_suite ?_
          refine HandSPX.lands_againZ fl3 fun g4 fl4 up4 => ?_
          have J4 : Inv X pins ρ G { t with heap := g4 } := J.landed nb fl4.1 ((up.trans up3).trans up4) os ag
          obtain ⟨ob4, fs4, at4, z4, dt4⟩ := fl4.there
          have S4 := J4.suite at4 dt4 ne nLoc nFs
          refine wpAny_mono ((su e ob4 kd d (X.pn ++ pins) z4 ⟨_, dt4⟩).run [] _ _ G _ S4 (yes rfl e ne)) (fun f r6 hsp => ?_) (fun _ _ z => False.elim z)
          cases f with
          | ret u =>
            obtain ⟨v6, τ6, G6, S6, rel6, q6⟩ := hsp
            exact ⟨_, _, _, S6.unsuite iok, rel6, q6⟩
          | _ =>
            obtain ⟨τ6, G6, S6, q6⟩ := hsp
            exact ⟨_, _, S6.unsuite iok, q6⟩
        | false =>
          show wpAny _ X.A (handleBy (.ref e) X.env hl3) _ _ _
          exact ih (no rfl)
      | @named nm n i k ts st sts p1 p2 hl3 wl3 nd ix lc hk su more ih =>
        intro w
        obtain ⟨b, hb1, yes, no⟩ := w
        refine wpAny_handleBy_cons (codeAny_handlers_test ?_) (by intro q; cases q)
        refine test hk ((PySem.W.exm_one (M := model X.prog X.w) (J3.kIn) look hb1).here ?_)
        cases b with
        | true =>
          refine codeAny_handlers_suite_as ?_
          refine HandSPX.lands_againZ fl3 fun g4 fl4 up4 => ?_
          have J4 : Inv X pins ρ G { t with heap := g4 } := J.landed nb fl4.1 ((up.trans up3).trans up4) os ag
          obtain ⟨ob4, fs4, at4, z4, dt4⟩ := fl4.there
          have S4 := J4.suite at4 dt4 ne nLoc nFs
          refine store_ok (X := X.suite e ((e, ob4) :: (X.pn ++ pins))) (v := .ref e) S4 nd ix (.inl lc) rfl (fun r5 S5 => ?_) (.inr lc)
          refine wpAny_mono ((su e ob4 kd d (X.pn ++ pins) z4 ⟨_, dt4⟩).run [] r5 _ G _ S5 (yes rfl e ne)) (fun f r6 hsp => ?_) (fun _ _ z => False.elim z)
          have goes : ∀ {τ6 : L2.St} {G6 : Hp} {Q : Shared → Prop}, Inv (X.suite e ((e, ob4) :: (X.pn ++ pins))) [] τ6 G6 r6 → (∀ r7, Inv X pins (τ6.set i none) G6 r7 → Q r7) →
              wpAny (model X.prog X.w) X.A (do bindName X.env n .none; unbindBehindTheSuite X.env n p2) (fun _ r7 => Q r7) X.xe r6 := fun {τ6 G6 Q} S6 hq => gone_ok (S6.unsuite iok) nd ix lc hq
          cases f with
          | ret u =>
            obtain ⟨v6, τ6, G6, S6, rel6, q6⟩ := hsp
            exact goes S6 fun r7 J7 => ⟨_, _, _, J7, rel6, q6⟩
          | _ =>
            obtain ⟨τ6, G6, S6, q6⟩ := hsp
            exact goes S6 fun r7 J7 => ⟨_, _, J7, q6⟩
        | false =>
          show wpAny _ X.A (handleBy (.ref e) X.env hl3) _ _ _
          exact ih (no rfl)
    exact all hh w
  · cases f with
    | next =>
      obtain ⟨ρ, G, J0, q⟩ := hsp
      exact wpAny_execs_nil ⟨ρ, G, J0.ofTry iok, q⟩
    | ret u =>
      obtain ⟨v, ρ, G, J0, rel, q⟩ := hsp
      exact ⟨v, ρ, G, J0.ofTry iok, rel, q⟩
    | _ =>
      obtain ⟨ρ, G, J0, q⟩ := hsp
      exact ⟨ρ, G, J0.ofTry iok, q⟩
end
end Jv

/-! ### trees of lists that are new: each list at its own place, so that one may change -/
namespace Jv
open PySem PySem.Spec PyProof.Rows L2
mutual
inductive Ft (K : PySem.W.Frag) (H : Hp) : V → PyData → List Addr → Prop
  | non : Ft K H .non .none []
  | bl (b : Bool) : Ft K H (.bl b) (.bool b) []
  | int (i : Int) : Ft K H (.int i) (.int i) []
  | str (x : Str) : Ft K H (.str x) (.str x) []
  | lst {a : Addr} {xs : List V} {ds : List PyData} {A : List Addr} : H a = some (.lst xs) → FtAll K H xs ds A → a ∉ A → Ft K H (.ref a) (.list ds) (a :: A)
inductive FtAll (K : PySem.W.Frag) (H : Hp) : List V → List PyData → List Addr → Prop
  | nil : FtAll K H [] [] []
  | cons {v : V} {vs : List V} {d : PyData} {ds : List PyData} {A B : List Addr} : Ft K H v d A → FtAll K H vs ds B → (∀ a ∈ A, a ∉ B) → FtAll K H (v :: vs) (d :: ds) (A ++ B)
end
mutual
theorem Ft.dv {K : PySem.W.Frag} {H : Hp} : ∀ {v : V} {d : PyData} {A : List Addr}, Ft K H v d A → Dv K H v d
  | _, _, _, .non => .non
  | _, _, _, .bl b => .bl b
  | _, _, _, .int i => .int i
  | _, _, _, .str x => .str x
  | _, _, _, .lst h q _ => .lst h (FtAll.dv q)
theorem FtAll.dv {K : PySem.W.Frag} {H : Hp} : ∀ {vs : List V} {ds : List PyData} {A : List Addr}, FtAll K H vs ds A → DvAll K H vs ds
  | _, _, _, .nil => .nil
  | _, _, _, .cons a b _ => .cons (Ft.dv a) (FtAll.dv b)
end
mutual
/-- what is kept at the tree's own places keeps the tree -/
theorem Ft.keep {K : PySem.W.Frag} {H H' : Hp} : ∀ {v : V} {d : PyData} {A : List Addr}, Ft K H v d A → (∀ a ∈ A, ∀ o, H a = some o → H' a = some o) → Ft K H' v d A
  | _, _, _, .non, _ => .non
  | _, _, _, .bl b, _ => .bl b
  | _, _, _, .int i, _ => .int i
  | _, _, _, .str x, _ => .str x
  | _, _, _, .lst h q n, s => .lst (s _ List.mem_cons_self _ h) (FtAll.keep q fun a m => s a (List.mem_cons_of_mem _ m)) n
theorem FtAll.keep {K : PySem.W.Frag} {H H' : Hp} : ∀ {vs : List V} {ds : List PyData} {A : List Addr}, FtAll K H vs ds A → (∀ a ∈ A, ∀ o, H a = some o → H' a = some o) → FtAll K H' vs ds A
  | _, _, _, .nil, _ => .nil
  | _, _, _, .cons a b n, s => .cons (Ft.keep a fun c m => s c (List.mem_append_left _ m)) (FtAll.keep b fun c m => s c (List.mem_append_right _ m)) n
end
section
variable {K : PySem.W.Frag} {H H' : Hp}
theorem FtAll.ints : ∀ ns : List Int, FtAll K H (ns.map V.int) (ns.map PyData.int) []
  | [] => .nil
  | a :: r => by
    have h := FtAll.cons (A := []) (B := []) (Ft.int (K := K) (H := H) a) (FtAll.ints r) (fun _ m => nomatch m)
    exact h
theorem FtAll.app : ∀ {vs ws : List V} {ds es : List PyData} {A B : List Addr}, FtAll K H vs ds A → FtAll K H ws es B → (∀ a ∈ A, a ∉ B) → FtAll K H (vs ++ ws) (ds ++ es) (A ++ B)
  | _, _, _, _, _, _, .nil, q, _ => q
  | _, ws, _, es, _, B, .cons (A := A1) (B := B1) a b n, q, dj => by
    rw [List.cons_append, List.cons_append, List.append_assoc]
    refine .cons a (FtAll.app b q fun c m => dj c (List.mem_append_right _ m)) fun c m => ?_
    intro m2
    rcases List.mem_append.mp m2 with h | h
    · exact n c m h
    · exact dj c (List.mem_append_left _ m) h
theorem FtAll.len : ∀ {vs : List V} {ds : List PyData} {A : List Addr}, FtAll K H vs ds A → vs.length = ds.length
  | _, _, _, .nil => rfl
  | _, _, _, .cons _ b _ => congrArg (· + 1) (FtAll.len b)
/-- one of them, and what a change within it makes of all -/
theorem FtAll.chg : ∀ {vs : List V} {ds : List PyData} {A : List Addr} {i : Nat} {v : V}, FtAll K H vs ds A → vs[i]? = some v → ∃ d B, ds[i]? = some d ∧ Ft K H v d B ∧ (∀ a ∈ B, a ∈ A) ∧
    (∀ w e H', (∀ a ∈ A, a ∉ B → ∀ o, H a = some o → H' a = some o) → Dv K H' w e → DvAll K H' (vs.set i w) (ds.set i e))
  | _, _, _, _, _, .nil, e => by simp at e
  | _, _, _, 0, v, .cons (A := A1) (B := B1) a b n, e => by
    simp at e; subst e
    refine ⟨_, A1, rfl, a, fun c m => List.mem_append_left _ m, fun w e H' s dv => ?_⟩
    exact .cons dv (b.keep fun c m => s c (List.mem_append_right _ m) fun m2 => n c m2 m).dv
  | _, _, _, i + 1, v, .cons (A := A1) (B := B1) a b n, e => by
    simp at e
    obtain ⟨d, B, h1, h2, h3, h4⟩ := FtAll.chg b e
    refine ⟨d, B, h1, h2, fun c m => List.mem_append_right _ (h3 c m), fun w e H' s dv => ?_⟩
    refine .cons (a.keep fun c m => s c (List.mem_append_left _ m) fun m2 => n c m (h3 c m2)).dv (h4 w e H' (fun c m m2 => s c (List.mem_append_right _ m) m2) dv)
mutual
theorem Ft.held : ∀ {v : V} {d : PyData} {A : List Addr}, Ft K H v d A → ∀ a ∈ A, ∃ xs, H a = some (.lst xs)
  | _, _, _, .lst h q _, a, m => by
    rcases List.mem_cons.mp m with rfl | m
    · exact ⟨_, h⟩
    · exact FtAll.held q a m
theorem FtAll.held : ∀ {vs : List V} {ds : List PyData} {A : List Addr}, FtAll K H vs ds A → ∀ a ∈ A, ∃ xs, H a = some (.lst xs)
  | _, _, _, .cons x y _, a, m => by
    rcases List.mem_append.mp m with m | m
    · exact Ft.held x a m
    · exact FtAll.held y a m
end
theorem Ft.same {v : V} {d : PyData} {A : List Addr} (h : Ft K H v d A) (s : Same H H') : Ft K H' v d A := h.keep fun a _ o e => s a o e
end
section
variable {K : PySem.W.Frag} {σ : L2.St} {H : Hp} {te te0 : TE} {Q : VK} {xs : List V} {es : List PyData} {j i n : Nat} {x : V} {J : It} {G : Hp → Prop} {Y : Nat → Hp → V → Hp → Prop} {F : Nat → V → Prop}
theorem lcNew (w : Walk J n G Y) (hG : ∀ H', Same H H' → G H') (hy : ∀ i H x H', i < n → Y i H x H' → H' = H ∧ F i x) (es : List PyData) (hl : es.length = n) (few : n ≤ 1000)
    (hs : ∀ i v e D H1, i < n → F i v → es[i]? = some e → Same H H1 → H D = none → (∃ o, H1 D = some o) → ∀ P : VK, (∀ y A H2, Same H1 H2 → Ft K H2 y e A → (∀ a ∈ A, H1 a = none) → P y H2) → te ((σ.set j none).set j (some v)) H1 P)
    (hd : ∀ D A H1, Same H H1 → Ft K H1 (.ref D) (.list es) A → (∀ a ∈ A, H a = none) → Q (.ref D) H1) : ∀ D, H D = none → ∃ W : Nat → Nat → Hp → Prop, (∃ m, W 0 m (upd H D (.lst []))) ∧ ∀ i m H, W i m H →
      (J.stop i H ∧ Q (.ref D) H) ∨ (J.go i H ∧ ∃ Nx : Hp → Prop, (∀ H', Nx H' → ∃ m', m' < m ∧ W (i + 1) m' H') ∧ ∀ x H', J.yld i H x H' → gName j x (wipe σ [j]) H' fun σ2 H2 => wipe σ2 [j] = wipe σ [j] ∧ tYes σ2 H2 fun b H3 =>
        if b = true then te σ2 H3 fun y H4 => ∃ acc, H4 D = some (.lst acc) ∧ acc.length < sizeLine ∧ Nx (upd H4 D (.lst (acc ++ [y]))) else Nx H3) := by
  intro D hD
  refine lc_it w (fun i H1 => Same H H1 ∧ ∃ ys A, H1 D = some (.lst ys) ∧ FtAll K H1 ys (es.take i) A ∧ ∀ a ∈ A, H a = none ∧ a ≠ D) ⟨same_new hD, [], [], upd_same, .nil, fun _ m => nomatch m⟩ (fun i H1 _ h => hG H1 h.1) ?_ ?_
  · rintro i x H1 H2 hi ⟨s1, ys, A, e1, al, fr⟩ hx
    obtain ⟨e0, hF⟩ := hy i _ _ _ hi hx
    subst e0
    refine ⟨wipe1, ?_⟩
    refine r_yes ?_
    refine r_true (c := true) rfl ?_
    have hie : i < es.length := by omega
    have he := List.getElem?_eq_getElem hie
    refine hs i x _ D _ hi hF he s1 hD ⟨_, e1⟩ _ fun y B H3 s3 dy nB => ⟨_, s3 _ _ e1, ?_, ?_, _, A ++ B, upd_same, ?_, ?_⟩
    · rw [al.len, List.length_take]; exact small_lt (by omega)
    · intro b o e; exact kpO (s3 _ _ (s1 b o e)) (ne_of_none e hD)
    · rw [take_more he]
      have nD : ∀ a ∈ B, a ≠ D := fun a m z => by have := nB a m; rw [z, e1] at this; cases this
      have q : FtAll K (upd H3 D (.lst (ys ++ [y]))) [y] [es[i]] B := by
        have q2 : Ft K (upd H3 D (.lst (ys ++ [y]))) y es[i] B := dy.keep fun a m o e => kpO e (nD a m)
        have q3 := FtAll.cons q2 (FtAll.nil (K := K)) (fun a _ => by simp)
        rw [List.append_nil] at q3
        exact q3
      refine FtAll.app (al.keep fun a m o e => kpO (s3 _ _ e) (fr a m).2) q fun a m m2 => ?_
      obtain ⟨zs, hz⟩ := al.held a m
      rw [nB a m2] at hz; cases hz
    · intro a m
      rcases List.mem_append.mp m with m | m
      · exact fr a m
      · have h1 := nB a m
        refine ⟨?_, fun z => by rw [z, e1] at h1; cases h1⟩
        cases e : H a with
        | none => rfl
        | some o => rw [s1 a o e] at h1; cases h1
  · rintro H1 ⟨s1, ys, A, e1, al, fr⟩
    rw [List.take_of_length_le (by omega)] at al
    exact hd D (D :: A) H1 s1 (.lst e1 al fun m => (fr D m).2 rfl) fun a m => by
      rcases List.mem_cons.mp m with rfl | m
      · exact hD
      · exact (fr a m).1
theorem lcNew2 (hv : σ[i]? = some (some x)) (hx : Sk K H x xs) (es : List PyData) (hl : es.length = xs.length) (few : xs.length ≤ 1000)
    (hs : ∀ i v e D H1, i < xs.length → xs[i]? = some v → es[i]? = some e → Same H H1 → H D = none → (∃ o, H1 D = some o) → ∀ P : VK, (∀ y A H2, Same H1 H2 → Ft K H2 y e A → (∀ a ∈ A, H1 a = none) → P y H2) → te ((σ.set j none).set j (some v)) H1 P)
    (hd : ∀ D A H1, Same H H1 → Ft K H1 (.ref D) (.list es) A → (∀ a ∈ A, H a = none) → Q (.ref D) H1) : tLc (fun σ H R => iList K (tVar i) σ H R ∨ iTup K (tVar i) σ H R) (gName j) tYes te [j] σ H Q := by
  obtain ⟨a, rfl, h | h⟩ := hx
  · exact .inl ⟨_, hv, a, rfl, ⟨xs, h⟩, lcNew walk_list (fun H' s => s.seq h) yat es hl few hs hd⟩
  · exact .inr ⟨_, hv, a, rfl, ⟨xs, h⟩, lcNew walk_tup (fun H' s => Jv.Same.sqT s h) yat es hl few hs hd⟩
end
section
variable {K : PySem.W.Frag} {g : TG} {tb : TS} {D : Ends} {σ : L2.St} {H : Hp} {xs : List V} {x : V} {i : Nat}
/-- a loop over a name that holds a list or a tuple that stays -/
theorem for_sk (hv : σ[i]? = some (some x)) (hx : Sk K H x xs) (Pv : Nat → L2.St → Hp → Prop) (h0 : Pv 0 σ H) (hl : ∀ j σ' H', Pv j σ' H' → Same H H')
    (hs : ∀ j v σ' H', xs[j]? = some v → Pv j σ' H' → g v σ' H' fun σ2 H2 => tb { D with nx := Pv (j + 1), ct := Pv (j + 1), bk := D.nx } σ2 H2) (hd : ∀ σ' H', Pv xs.length σ' H' → D.nx σ' H') :
    iList K (tVar i) σ H (fun it H1 => ∃ W : Nat → Nat → L2.St → Hp → Prop, (∃ m, W 0 m σ H1) ∧ ∀ i m σ H, W i m σ H →
      (it.stop i H ∧ D.nx σ H) ∨ (it.go i H ∧ ∃ N : L2.St → Hp → Prop, (∀ σ' H', N σ' H' → ∃ m', m' < m ∧ W (i + 1) m' σ' H') ∧ ∀ x H', it.yld i H x H' → g x σ H' fun σ2 H2 => tb { D with nx := N, ct := N, bk := D.nx } σ2 H2)) ∨
    iTup K (tVar i) σ H (fun it H1 => ∃ W : Nat → Nat → L2.St → Hp → Prop, (∃ m, W 0 m σ H1) ∧ ∀ i m σ H, W i m σ H →
      (it.stop i H ∧ D.nx σ H) ∨ (it.go i H ∧ ∃ N : L2.St → Hp → Prop, (∀ σ' H', N σ' H' → ∃ m', m' < m ∧ W (i + 1) m' σ' H') ∧ ∀ x H', it.yld i H x H' → g x σ H' fun σ2 H2 => tb { D with nx := N, ct := N, bk := D.nx } σ2 H2)) := by
  obtain ⟨a, rfl, h | h⟩ := hx
  · exact .inl ⟨_, hv, a, rfl, ⟨xs, h⟩, for_list (xs := xs) Pv h0 (fun j σ' H' _ p => (hl j σ' H' p).seq h) hs hd⟩
  · exact .inr ⟨_, hv, a, rfl, ⟨xs, h⟩, for_tup (xs := xs) Pv h0 (fun j σ' H' _ p => Jv.Same.sqT (hl j σ' H' p) h) hs hd⟩
end
section
variable {K : PySem.W.Frag} {g : TG} {tb : TS} {D : Ends} {σ : L2.St} {H H0 : Hp} {xs : List V} {x : V} {i : Nat}
/-- the same with the sequence in an earlier heap -/
theorem for_sk0 (hv : σ[i]? = some (some x)) (hx : Sk K H0 x xs) (s0 : Same H0 H) (Pv : Nat → L2.St → Hp → Prop) (h0 : Pv 0 σ H) (hl : ∀ j σ' H', Pv j σ' H' → Same H0 H')
    (hs : ∀ j v σ' H', xs[j]? = some v → Pv j σ' H' → g v σ' H' fun σ2 H2 => tb { D with nx := Pv (j + 1), ct := Pv (j + 1), bk := D.nx } σ2 H2) (hd : ∀ σ' H', Pv xs.length σ' H' → D.nx σ' H') :
    iList K (tVar i) σ H (fun it H1 => ∃ W : Nat → Nat → L2.St → Hp → Prop, (∃ m, W 0 m σ H1) ∧ ∀ i m σ H, W i m σ H →
      (it.stop i H ∧ D.nx σ H) ∨ (it.go i H ∧ ∃ N : L2.St → Hp → Prop, (∀ σ' H', N σ' H' → ∃ m', m' < m ∧ W (i + 1) m' σ' H') ∧ ∀ x H', it.yld i H x H' → g x σ H' fun σ2 H2 => tb { D with nx := N, ct := N, bk := D.nx } σ2 H2)) ∨
    iTup K (tVar i) σ H (fun it H1 => ∃ W : Nat → Nat → L2.St → Hp → Prop, (∃ m, W 0 m σ H1) ∧ ∀ i m σ H, W i m σ H →
      (it.stop i H ∧ D.nx σ H) ∨ (it.go i H ∧ ∃ N : L2.St → Hp → Prop, (∀ σ' H', N σ' H' → ∃ m', m' < m ∧ W (i + 1) m' σ' H') ∧ ∀ x H', it.yld i H x H' → g x σ H' fun σ2 H2 => tb { D with nx := N, ct := N, bk := D.nx } σ2 H2)) := by
  obtain ⟨a, rfl, h | h⟩ := hx
  · exact .inl ⟨_, hv, a, rfl, ⟨xs, s0.seq h⟩, for_list (xs := xs) Pv h0 (fun j σ' H' _ p => (hl j σ' H' p).seq h) hs hd⟩
  · exact .inr ⟨_, hv, a, rfl, ⟨xs, Jv.Same.sqT s0 h⟩, for_tup (xs := xs) Pv h0 (fun j σ' H' _ p => Jv.Same.sqT (hl j σ' H' p) h) hs hd⟩
end
/-- a tree without lists needs no list -/
theorem sqT_hide {K : PySem.W.Frag} {H : Hp} {N : List Addr} (hN : ∀ b ∈ N, ∃ ys, H b = some (.lst ys)) {a : Addr} {xs : List V} (h : SqT K H a xs) : SqT K (hide N H) a xs := by
  rcases h with (h | ⟨o, h⟩) | h
  · exact .inl (.inl (hide_at (fun m => by obtain ⟨ys, e⟩ := hN a m; rw [h] at e; cases e) h))
  · exact .inl (.inr ⟨o, hide_at (fun m => by obtain ⟨ys, e⟩ := hN a m; rw [h] at e; cases e) h⟩)
  · exact .inr h
theorem DvAll.imp {K : PySem.W.Frag} {H H' : Hp} : ∀ {vs : List V} {ds : List PyData}, DvAll K H vs ds → (∀ v d, d ∈ ds → Dv K H v d → Dv K H' v d) → DvAll K H' vs ds
  | _, _, .nil, _ => .nil
  | _, _, .cons a b, f => .cons (f _ _ List.mem_cons_self a) (DvAll.imp b fun v d m => f v d (List.mem_cons_of_mem _ m))
end Jv

/-! ### repr of a container: where no text of a container is under way (guards known) -/
namespace Jv
open PySem PySem.Spec PyProof.Rows L2
/-- a def's promise where no text of a container is under way -/
structure FnG (P : Program) (w : World) (K : PySem.W.Frag) (mg : Str → Option Value) (base : Heap) (CX : CXT) (k : Nat) (f : Addr) (fd : FuncData) (ps : List Str) (sp : Sp) : Prop where
  long : ∀ vs H Q E, sp vs H Q E → vs.length = ps.length
  goes : ∀ A outer s H args us vs Q E, A.guards = some [] → Room k A →
    Env0 P w K mg base A outer s H → BindsTo s fd args (ps.zip us) → Vals vs us → sp vs H Q E →
      codeAny (model P w) A (.call (.ref f) args) (CR CX outer P w H s Q E) s
section
variable {P : Program} {w : World} {K : PySem.W.Frag} {mg : Str → Option Value} {base : Heap} {CX : CXT} {k : Nat} {f : Addr} {fd : FuncData} {ps : List Str} {sp : Sp}
theorem FnG.of (F : FnOk P w K mg base CX k f fd ps sp) : FnG P w K mg base CX k f fd ps sp := ⟨F.len, fun A o s H a us vs Q E _ => F.run A o s H a us vs Q E⟩
/-- a def whose body may ask for the text of a container -/
theorem fun_okG {x qual : Str} {st : Stmt} {N : List Str} (F : Fun K x qual st f fd) (S : FnScope N ps (defScope st)) (hl : ∀ vs H Q E, sp vs H Q E → vs.length = ps.length)
    (body : ∀ (cdv : Value) (A : Around) (outer : List Env) (s : Shared) (H : Hp) (vs : List V) (Q : VK) (E : XK), A.guards = some [] → Room k (A.deeper (envOfC qual (defScope st) s.heap.objs.size f cdv)) → sp vs H Q E →
      ∃ t, PSs (cxOf CX0 P w K mg base N qual (defScope st) f cdv A outer s H E).nox (defBody st) t ∧ t { nx := fun _ H' => Q .non H', rt := Q } (start N vs) H) : FnG P w K mg base CX0 (k + 1) f fd ps sp := by
  obtain ⟨c1, c2, c3, c4, c5, c6, c7, c8, c9, rfl, here, rec⟩ := F.ex
  refine ⟨hl, fun A outer s H args us vs Q E gd room e0 bd rv hs => ?_⟩
  have up : ∀ b o, base.get? b = some o → s.heap.get? b = some o := fun b o q => (e0.bs b o q).1
  have kin : K.In s.heap := e0.mod.kin.keeps up
  refine codeAny_call_function room.depth (kin _ _ here) rfl S.co S.gen rfl (PySem.W.codeRec_of kin rec) (bd _ _ _ _ ?_)
  refine wpAny_newFunctionEnv_cells S.kind (fun y hy => ?_) fun env he s1 inC => ?_
  · rcases S.par y.1 (List.of_mem_zip (show (y.1, y.2) ∈ _ from hy)).1 with q | q
    · exact Or.inl q
    · exact Or.inr ⟨q, PySem.W.cellsFrom_some _ _ _ (Or.inl q)⟩
  cases he
  refine ⟨(e0.mod.nolimit.keeps up).keeps inC.toInCall.keep, codeAny_func ?_⟩
  obtain ⟨t, pt, q⟩ := body c7 A outer s H vs Q E gd (room.deeper _) hs
  refine wpAny_mono (pt.nox.run [] s1 _ H _ (inv_start S room.hd e0 (hl _ _ _ _ hs) rv inC) q) (fun fl s' z => ?_) fun _ _ z => z
  have done : ∀ (σ' : L2.St) (H' : Hp) (v : V) (u : Value), Inv (cxOf CX0 P w K mg base N qual (defScope st) f c7 A outer s H E) [] σ' H' s' → RelV v u → Q v H' → CE outer P w H s Q u s' :=
    fun σ' H' v u J r q => ⟨v, H', J.os, J.bare, J.base, J.hok, r, q⟩
  cases fl
  case ret u => exact let ⟨v, σ', H', J, r, q⟩ := z; done σ' H' v u J r q
  case next => exact let ⟨σ', H', J, q⟩ := z; done σ' H' .non .none J rfl q
  case brk => exact let ⟨_, _, _, q⟩ := z; (q : False).elim
  case cont => exact let ⟨_, _, _, q⟩ := z; (q : False).elim
end
/-! ### the text of a container -/
def rRepr (K : PySem.W.Frag) : List V → Hp → VK → Prop := fun xs H Q => ∃ a d, xs = [.ref a] ∧ Dp K H (.ref a) d ∧ d.canLay0 = true ∧ d.depth ≤ 60 ∧ d.showable = true ∧ d.shown.length ≤ sizeLine ∧ Q (.str d.shown) H
theorem call_repr {X : Cx} (hg : X.A.guards = some []) (hu : X.A.units + 64 < cLine) : CallR X (.builtin "repr") (rRepr X.K) := by
  intro pins s σ H xs us Q I r h
  obtain ⟨a, d, rfl, dp, c1, c2, c3, c4, q⟩ := h
  obtain ⟨u, rfl, ru⟩ := r.one
  cases (show u = Value.ref a from ru)
  obtain ⟨as, rd⟩ := Dp.reads I d (.ref a) (.ref a) dp rfl
  refine repr_of_reads' rd c3 (fun z => by rw [PyData.hasDict_of_canLay d c1] at z; cases z) hg (by omega) (fun _ _ e => e) (fun h' u tk k => ?_) c4
  exact ⟨.str d.shown, H, I.kept (t' := tk) k, ⟨_, rfl⟩, q⟩
theorem gd_body {CX : CXT} {P : Program} {w : World} {K : PySem.W.Frag} {mg : Str → Option Value} {base : Heap} {N : List Str} {qual : Str} {scope : Scope} {f : Addr} {cd : Value} {A : Around} {outer : List Env} {s : Shared} {H : Hp} {E : XK} (h : A.guards = some []) :
    (cxOf CX P w K mg base N qual scope f cd A outer s H E).nox.A.guards = some [] := h
/-! ### the end of a law whose def asks for the text of a container -/
section
variable {P : Program} {w : World} {K : PySem.W.Frag} {mg mb : Str → Option Value} {CX : CXT} {k : Nat} {fa a : Addr} {fd : FuncData} {x : Str} {sp : Sp} {z : Shared} {vs : List Value} {ns : List Int}
theorem lawG (kin : K.In z.heap) (gl : z.heap.Ns mainGlobals mg) (bi : z.heap.Ns builtinsNs mb) (bb : ∀ y : Str, y ≠ "__name__" → mb y = bootBuiltins y) (nl : z.heap.NoLimit) (gn : z.gens = #[])
    (ea : z.heap.get? a = some { cls := .type "list", data := .seq vs.toArray }) (hi : IntsAre vs ns) (few : ns.length ≤ sizeLine) (room : Room k callerA)
    (F : ∀ base : Heap, K.In base → base.Ns mainGlobals mg → FnG P w K mg base CX k fa fd [x] sp) (bd : ∀ (s : Shared) (u : Value), BindsTo s fd ⟨[u], []⟩ [(x, u)])
    (says : ∀ H : Hp, Only H → SqL K H a (ns.map V.int) → sp [.ref a] H (fun v _ => v = .bl true) fun _ _ _ => False) (quiet : ∀ H e s', CX [] H z (fun _ _ _ => False) e s' → False) :
    codeAny (model P w) callerA (.call (.ref fa) ⟨[.ref a], []⟩) (fun r s' => r = .ok (.ret (.bool true)) ∧ OldK z.heap s'.heap ∧ s'.os = z.os ∧ AllBare s'.gens) z := by
  -- H tracks the script at most, and that only where it is none of the module's objects
  have main : ∀ H : Hp, Only H → (∀ b, ¬ H b = none → b = a ∧ K.lookup a = none) → SqL K H a (ns.map V.int) → HOk P w H z.heap →
      codeAny (model P w) callerA (.call (.ref fa) ⟨[.ref a], []⟩) (fun r s' => r = .ok (.ret (.bool true)) ∧ OldK z.heap s'.heap ∧ s'.os = z.os ∧ AllBare s'.gens) z := fun H only tr sq ok => by
    have dictOff : ∀ {b : Addr} {o : Obj} {es : Array DictEntry} {n : Nat}, z.heap.get? b = some o → o.data = .dict es n → H b = none := fun {b o es n} e d =>
      Classical.byContradiction fun t => by
        obtain ⟨rfl, _⟩ := tr b t
        rw [ea] at e
        cases e
        exact nomatch (show Data.seq vs.toArray _ = Data.dict es n from d)
    have spaces : ∀ {b : Addr} {m : Str → Option Value}, z.heap.Ns b m → (hidT z.heap H).Ns b m := fun q => by
      obtain ⟨o, es, n, e, d, r⟩ := q
      exact ⟨o, es, n, hidT_get e (dictOff e d), d, r⟩
    have own : K.In (hidT z.heap H) := fun b o q => hidT_get (kin b o q) (Classical.byContradiction fun t => by
      obtain ⟨rfl, n⟩ := tr b t
      rw [n] at q
      cases q)
    obtain ⟨ml, l1, l2⟩ := nl
    have start : Env0 P w K mg (hidT z.heap H) callerA [] z H :=
      { frames := rfl, mod := ⟨own, spaces gl, ⟨mb, spaces bi, bb⟩, ml, spaces l1, l2⟩, bs := fun _ _ q => of_hidT q, bsz := Nat.le_of_eq (hidT_size _ _), funs := trivial,
        frf := fun b q => (List.not_mem_nil q).elim, hok := ok, bare := .of_eq gn }
    refine codeAny_mono ((F _ own (spaces gl)).goes callerA [] z H ⟨[.ref a], []⟩ [.ref a] [.ref a] _ _ rfl room start (bd z (.ref a)) (.cons rfl .nil) (says H only sq)) fun r s' q => ?_
    match r, q with
    | .error e, q => exact (quiet H e s' q).elim
    | .ok .next, q => exact False.elim q
    | .ok .brk, q => exact False.elim q
    | .ok .cont, q => exact False.elim q
    | .ok (.ret u), q =>
      obtain ⟨v, H', os, bare, un, ok', rv, (rfl : v = .bl true)⟩ := q
      obtain rfl : u = Value.bool true := rv
      refine ⟨rfl, OldK.of_keep fun b o e => ?_, os, bare⟩
      rcases only b with n | ⟨ob, xs, t⟩
      · exact un.keep b o e n (fun m => (List.not_mem_nil m).elim) List.not_mem_nil
      · obtain ⟨h1, _⟩ := ok b _ t
        obtain ⟨h2, _⟩ := ok' b _ (un.frzs b ob _ t)
        rw [e] at h1
        cases h1
        exact h2
  have rv := vals_ints hi
  have nv := hi.length
  by_cases hk : K.lookup a = none
  · obtain ⟨S, hS⟩ : ∃ S : Hp, S = fun b => if b = a then some (HO.frz { cls := .type "list", data := .seq vs.toArray } (.lst (ns.map V.int))) else none := ⟨_, rfl⟩
    have seen : S a = some (.frz { cls := .type "list", data := .seq vs.toArray } (.lst (ns.map V.int))) := by rw [hS]; exact if_pos rfl
    have other : ∀ b, b ≠ a → S b = none := fun b e => by rw [hS]; exact if_neg e
    clear hS
    refine main S (fun b => ?_) (fun b t => ?_) (.inl (.inr ⟨_, seen⟩)) (fun b u t => ?_)
    · by_cases e : b = a
      · exact .inr ⟨_, _, by rw [e]; exact seen⟩
      · exact .inl (other b e)
    · exact ⟨Classical.byContradiction fun e => t (other b e), hk⟩
    · by_cases e : b = a
      · subst e
        rw [seen] at t
        cases t
        exact ⟨ea, by rw [List.length_map]; exact few, vs, _, rv, ea⟩
      · exact nomatch (other b e).symm.trans t
  · obtain ⟨o, q⟩ := Option.ne_none_iff_exists'.mp hk
    have e := kin a o q
    rw [ea] at e
    cases e
    exact main (fun _ => none) (fun _ => .inl rfl) (fun _ t => (t rfl).elim) (.inr ⟨_, vs.toArray, _, q, rfl, rfl, rfl, by rw [List.size_toArray, nv]; exact few, by simpa using rv⟩) fun _ _ t => nomatch (show (none : Option HO) = some _ from t)
end
theorem walkG {l : PySem.W.OpenLaw} {n k : Nat} {q : Program} {loose : List Str} {XP : (Str → Option Value) → Heap → Prop} {YP : World → Heap → Prop} {d : DefRec} {K : Params → PySem.W.Frag} {sp : World → Sp} {x : Str}
    (h1 : l.most = some n) (h2 : n ≤ sizeLine) (h3 : d.params.defaults = []) (h4 : Room k callerA) (h5 : ∀ (w : World) (h : Heap), YP w h → (K w.params).In h)
    (F : ∀ (w : World) (mg : Str → Option Value) (fa : Addr) (h : Heap), (K w.params).In h → h.Ns mainGlobals mg → mg d.name = some (.ref fa) → ∃ fd : FuncData, (∀ (s : Shared) (u : Value), BindsTo s fd ⟨[u], []⟩ [(x, u)]) ∧
      ∀ base : Heap, (K w.params).In base → base.Ns mainGlobals mg → FnG l.prog w (K w.params) mg base CX0 k fa fd [x] (sp w))
    (says : ∀ (w : World) (H : Hp) (a : Addr) (ns : List Int), ns.length ≤ n → Only H → SqL (K w.params) H a (ns.map V.int) → sp w [.ref a] H (fun v _ => v = .bl true) fun _ _ _ => False)
    (quiet : ∀ (w : World) (H : Hp) (s : Shared) (e : Value) (s' : Shared), CX0 [] H s (fun _ _ _ => False) e s' → False) :
    PySem.W.WalkO q loose XP YP l.row.toRowW d [] (fun f vs => PySem.call f vs) :=
  Att.attach_call h1 h3 fun w s₀ s₁ mg mb fa o pm cd doc a vs ns G Y ho hd hcd hmg hobj hints hlen hg => by
    obtain ⟨fd, bd, hF⟩ := F w mg fa _ (h5 w _ Y) G.T.g hmg
    exact lawG (h5 w _ Y) G.T.g G.T.b G.T.builtins G.T.nolimit hg hobj hints (Nat.le_trans hlen h2) h4 hF bd (fun H only sq => says w H a ns hlen only sq) fun H e s' => quiet w H s₁ e s'
end Jv

/-! ### isinstance of an exception that an except clause has caught -/
namespace Jv
open PySem PySem.Spec PyProof.Rows L2
structure XiC (K : PySem.W.Frag) (C : Addr) : Prop where
  cl : (PySem.W.clsIn K C).isSome = true
  ga : PySem.W.findIn K (.ref C) "__getattribute__" = some (some (.builtin "BaseException.__getattribute__"))
  gg : PySem.W.findIn K (.ref C) "__getattr__" = some none
  ex : PySem.W.subIn K (.ref C) (.type "BaseException") = some true
  ca : PySem.W.findIn K (.ref C) "__class__" = some (some (.builtin "object.__class__"))
  sp : PySem.W.specialIn K (.builtin "object.__class__") "__get__" = some (some (.builtin "getset_descriptor.__get__"))
  tk : PySem.W.takesIn K (.builtin "object.__class__") = some true
  mr : PySem.W.mroIn K C (.type "object") = some true
/-- isinstance(e, c): a the caught one, of an own class C, that has no fields -/
def rIsX (K : PySem.W.Frag) (a : Addr) (cls : Value) (d : Option Addr) : List V → Hp → VK → Prop := fun xs H Q => ∃ (C : Addr) (c : V) (u : Value) (b : Bool), cls = .ref C ∧ d = none ∧ XiC K C ∧ xs = [.ref a, c] ∧ ClsV c u ∧ PySem.W.kitOne K (.ref C) u = some b ∧ Q (.bl b) H
theorem call_isX {X : Cx} {a : Addr} {cls : Value} {d : Option Addr} {oe : Obj} {pn : List (Addr × Obj)} (hz : Zc cls d oe) (hf : ∃ vs, oe.data = .fields vs) : CallR (X.suite a ((a, oe) :: pn)) (.builtin "isinstance") (rIsX X.K a cls d) := by
  intro pins s σ H xs us Q I r h
  obtain ⟨C, c, u, b, rfl, rfl, T, rfl, k, e, q⟩ := h
  obtain ⟨u1, u2, rfl, r1, r2⟩ := vals2 r
  have e2 := k.eq r2
  subst e2
  obtain rfl : u1 = Value.ref a := r1
  obtain ⟨ha, _⟩ := I.pin (a, oe) (List.mem_append_left _ List.mem_cons_self)
  obtain ⟨vs, hd⟩ := hf
  have J : PySem.W.InstAt s.heap a oe C none := ⟨ha, hz.1, by unfold PySem.W.notCls; rw [hd] <;> rfl, by rw [hz.2]; trivial⟩
  exact PySem.W.kia_one (PySem.W.kitx_exc T.cl T.ga T.gg T.ex T.ca T.sp T.tk T.mr) I.kIn J e (fun z => nomatch z) fun tk => ⟨.bl b, H, I.tok tk, rfl, q⟩
theorem takes_len {X : Cx} {W : WX} (t : Takes X W) : Takes X (fun cls d σ H => σ.length = X.N.length → W cls d σ H) := fun u s' ⟨a, B, sI, pins, σ, H, cls, d, e, I, nb, up, sky, na, os, ag, w⟩ =>
  t u s' ⟨a, B, sI, pins, σ, H, cls, d, e, I, nb, up, sky, na, os, ag, w I.len⟩
/-- a call whose wish of raises is chosen at the call -/
theorem pe_exL {X : Cx} {e : Expr} {W : WX} {t : XK → TE} {n : Nat} (hn : X.N.length = n) (tk : Takes X W) (h : ∀ (E : XK) (W' : WX), Takes X W' → (∀ cls d σ' H', E cls d H' → W' cls d σ' H') → PE X e (t E)) :
    PE X e (fun σ H Q => ∃ E : XK, (∀ cls d σ' H', E cls d H' → σ'.length = n → W cls d σ' H') ∧ t E σ H Q) := by
  subst hn
  exact ⟨fun pins s σ H Q I hh => by
    obtain ⟨E, hW, q⟩ := hh
    exact (h E _ (takes_len tk) hW).run pins s σ H Q I q⟩
theorem slots3 {σ : L2.St} (h : σ.length = 3) : ∃ x y z, σ = [x, y, z] := by
  match σ, h with
  | [x, y, z], _ => exact ⟨x, y, z, rfl⟩
end Jv

/-! ### tuples whose object is known: displays, sums; .index of a list or of such a tuple; repr of anything; calls where no text is under way -/
namespace Jv
open PySem PySem.Spec PyProof.Rows L2
/-- tuples of which is known that they have no dict of their own -/
def FzT (H : Hp) (t : Addr) : Prop := ∃ o u, H t = some (.frz o u) ∧ o.cls = .type "tuple" ∧ o.dict = none
theorem FzT.same {H H' : Hp} {t : Addr} (h : FzT H t) (s : Same H H') : FzT H' t := by
  obtain ⟨o, u, e, c⟩ := h
  exact ⟨o, u, s _ _ e, c⟩
section
variable {X : Cx} {es : List Expr} {t : TA} {pos : Pos}
def tTupF (t : TA) : TE := fun σ H Q => t σ H fun xs H1 => xs.length ≤ sizeLine ∧ ∀ p o, H1 p = none → o.cls = .type "tuple" → o.dict = none → Q (.ref p) (upd H1 p (.frz o (.tup xs)))
theorem pe_tupF {x1} (h : PA X es t) : PE X (.Tuple es x1 pos) (tTupF t) := by
  refine ⟨fun pins s σ H Q I hq => ?_⟩
  refine wpAny_Tuple_spliced (thn (h.run pos pins s σ H _ I hq) fun us s1 ⟨xs, H1, I1, r, z, q⟩ => ⟨by rw [← r.length]; exact z, ?_⟩)
  have at1 : (s1.heap.push ({ cls := .type "tuple", data := .seq us.toArray } : Obj)).get? s1.heap.objs.size = some { cls := .type "tuple", data := .seq us.toArray } := Heap.get?_push_size _ rfl
  have I2 : Inv X pins σ (upd H1 s1.heap.objs.size (.frz { cls := .type "tuple", data := .seq us.toArray } (.tup xs))) { s1 with heap := s1.heap.push { cls := .type "tuple", data := .seq us.toArray } } :=
    I1.laid (t' := s1.toks) (fun b o e => Heap.get?_push_of_some _ e) (Nat.le_refl _) (show ObjOk X.prog X.w _ _ _ (.frz _ (.tup xs)) from ⟨at1, z, us, r, IsTup.new _ _⟩)
  exact ⟨.ref s1.heap.objs.size, _, I2, rfl, q _ _ (I1.hok.fresh (Nat.le_refl _)) rfl rfl⟩
/-- t + u: one of them, or a new one -/
def rCatF (K : PySem.W.Frag) : R2 := fun x y H Q => ∃ a b xs ys, x = .ref a ∧ y = .ref b ∧ SqT K H a xs ∧ SqT K H b ys ∧ xs.length + ys.length ≤ sizeLine ∧
  (xs = [] → Q (.ref b) H) ∧ (xs ≠ [] → ys = [] → Q (.ref a) H) ∧ (xs ≠ [] → ys ≠ [] → ∀ p o, H p = none → o.cls = .type "tuple" → o.dict = none → Q (.ref p) (upd H p (.frz o (.tup (xs ++ ys)))))
theorem op_catF : OpR X (binaryOp .Add) (rCatF X.K) := by
  intro pins s σ H x y v u Q I rx ry h
  obtain ⟨a, b, xs, ys, rfl, rfl, ha, hb, hz, q0, q1, q2⟩ := h
  cases rx
  cases ry
  obtain ⟨its, r1, p1, _⟩ := I.tuple ha
  obtain ⟨its2, r2, p2, _⟩ := I.tuple hb
  by_cases hx : xs = []
  · subst hx
    cases r1
    exact cat_tup0 p1 p2 ⟨.ref b, H, I, rfl, q0 rfl⟩
  · refine HT.cat_tup p1 p2 (fun z => hx (r1.nil_iff.mp z)) (fun z => ⟨.ref a, H, I, rfl, q1 hx (r2.nil_iff.mp z)⟩) (fun z => ?_) (by rw [← r1.length, ← r2.length]; exact hz)
    have at1 : (s.heap.push ({ cls := .type "tuple", data := .seq (its ++ its2).toArray } : Obj)).get? s.heap.objs.size = some { cls := .type "tuple", data := .seq (its ++ its2).toArray } := Heap.get?_push_size _ rfl
    have I2 : Inv X pins σ (upd H s.heap.objs.size (.frz { cls := .type "tuple", data := .seq (its ++ its2).toArray } (.tup (xs ++ ys)))) { s with heap := s.heap.push { cls := .type "tuple", data := .seq (its ++ its2).toArray } } :=
      I.laid (t' := s.toks) (fun b o e => Heap.get?_push_of_some _ e) (Nat.le_refl _) (show ObjOk X.prog X.w _ _ _ (.frz _ (.tup _)) from ⟨at1, by rw [List.length_append]; exact hz, _, r1.append r2, IsTup.new _ _⟩)
    exact ⟨.ref s.heap.objs.size, _, I2, rfl, q2 hx (fun w => z (r2.nil_iff.mpr w)) _ _ (I.hok.fresh (Nat.le_refl _)) rfl rfl⟩
end
/-! ### .index -/
def rIdxT (K : PySem.W.Frag) : V → List V → Hp → VK → Prop := fun x xs H Q => ∃ (a : Addr) (ns : List Int) (z : Int) (j : Nat), x = V.ref a ∧ xs = [.int z] ∧ SqT K H a (ns.map V.int) ∧ ns[j]? = some z ∧ (∀ m, m < j → ns[m]? ≠ some z) ∧ Q (.int (j : Nat)) H
theorem eqV_ints {a b : Int} : eqV (.int a) (.int b) = decide (a = b) := by
  show (a == b) = _
  by_cases h : a = b
  · subst h; simp
  · simp [h]
theorem flatI (ns : List Int) : (ns.map V.int).all flatV = true := by
  rw [List.all_map, List.all_eq_true]; intro n _; rfl
section
variable {X : Cx}
theorem mt_idxT : MtR X "tuple.index" (rIdxT X.K) := by
  intro pins s σ H x xs v us Q I rx rs h
  obtain ⟨p, ns, z, j, rfl, rfl, hq, hy, hno, q⟩ := h
  cases rx
  obtain ⟨u, rfl, t, rfl⟩ := vals1 rs
  obtain ⟨its, r, ⟨⟨cls, dd, dt, sl⟩, ho, hc, n, hd⟩, hz⟩ := I.tuple hq
  simp only at hc hd
  subst hc hd
  have hl := r.length
  rw [List.length_map] at hl
  have hjn := (List.getElem?_eq_some_iff.mp hy).1
  have hj : j < its.toArray.size := by rw [List.size_toArray]; omega
  have at' : ∀ (m : Nat) (hm : m < its.toArray.size), ∃ y, ns[m]? = some y ∧ eqU (.int z) its.toArray[m] = decide (y = z) := fun m hm => by
    have hm' : m < ns.length := by rw [List.size_toArray] at hm; omega
    obtain ⟨w, hw, rw'⟩ := r.get (i := m) (x := .int ns[m]) (by simp [hm'])
    refine ⟨ns[m], List.getElem?_eq_getElem hm', ?_⟩
    have e := (List.getElem?_eq_some_iff.mp hw).2
    have e2 : its.toArray[m] = w := by simpa using e
    rw [e2, eqU_of rw' rfl, eqV_ints]
  refine call_meets PySem.F.slot_tuple_index ⟨_, ho, rfl⟩ PySem.F.entry_tuple_index (PySem.F.args_tuple_index_2 _ _) (TI.tuple_indexAt p its.toArray n dd sl (.int z t) (eqU (.int z)) j hj ?_ ?_)
    ⟨ho, fun w hw => mem_eqAt (x := .int z) ⟨t, rfl⟩ rfl r (flatI ns) w (by simpa using hw), ⟨.int (j : Nat), H, I.tok _, ⟨_, rfl⟩, q⟩⟩
  · obtain ⟨y, h1, h2⟩ := at' j hj
    rw [hy] at h1; cases h1
    rw [h2, decide_eq_true rfl]
  · intro m hm hmj
    obtain ⟨y, h1, h2⟩ := at' m hm
    rw [h2, decide_eq_false]; intro e; subst e; exact hno m hmj h1
/-- x.index(n), x a list or a tuple of whole numbers -/
def tIdx (K : PySem.W.Frag) (to ta : TE) : TE := fun σ H Q => to σ H fun x H1 => ta σ H1 fun y H2 => ∃ (a : Addr) (ns : List Int) (z : Int) (j : Nat), x = .ref a ∧ y = .int z ∧ H2 = H1 ∧ (SqL K H1 a (ns.map V.int) ∨ (SqT K H1 a (ns.map V.int) ∧ FzT H1 a)) ∧ ns[j]? = some z ∧ (∀ m, m < j → ns[m]? ≠ some z) ∧ Q (.int (j : Nat)) H2
theorem pe_idx {o : Expr} {to : TE} {apos cpos p1 : Pos} {x : Str} {i : Nat} (ho : PE X o to) (hN : X.N[i]? = some x) (hv : Vis X.env.scope x)
    (hbase : attributeBase o "index" X.env (eval o X.env) = eval o X.env := by rfl)
    (hfew : ((backTo cpos (starEach [.Name x p1] X.env)).all (fun x => !x.1) && (backToKw cpos (keywordEach [] X.env)).all (fun x => x.1.isSome)
      && decide ([Expr.Name x p1].length + ([] : List Keyword).length + (if ([] : List Keyword).isEmpty then 0 else 1) < 30)) = true := by rfl)
    (hline : (apos.endLine == cpos.line) = true := by rfl) (hs : starEach [.Name x p1] X.env = (false, eval (.Name x p1) X.env) :: starEach [] X.env := by rfl) (hd : (x == ("__debug__" : Str)) = false := by decide) (hcd : (x == ("__classdict__" : Str)) = false := by decide) :
    PE X (.Call (.Attribute o "index" apos) [.Name x p1] [] cpos) (tIdx X.K to (tVar i)) := by
  refine ⟨fun pins s σ H Q I h => ?_⟩
  refine wpAny_Call_method_late hbase hfew hline rfl (thn (ho.run pins s σ H _ I (show to σ H _ from h)) fun v s1 h9 => ?_)
  obtain ⟨w, H1, I1, r1, y, hσ, a, ns, z, j, ew, ey, _, hl, h1, h2, q⟩ := h9
  subst ew ey
  obtain rfl : v = Value.ref a := r1
  have args : ∀ {id : String}, MtR X id (fun x xs H Q => x = .ref a ∧ xs = [.int z] ∧ H = H1 ∧ Q (.int (j : Nat)) H) →
      wpAny (model X.prog X.w) X.A (callWith cpos (.builtin id) [.ref a] (backTo cpos (starEach [.Name x p1] X.env)) []) (EP X pins σ Q) X.xe s1 := fun {id} hm => by
    have hA := (pa_cons (pe_var (pos := p1) (i := i) hN hv hd hcd) pa_nil).run cpos pins s1 σ H1 (fun xs G => xs = [.int z] ∧ G = H1) I1 ⟨_, hσ, rfl, rfl⟩
    rw [hs] at hA ⊢
    refine Calls.callWith_builtin rfl (Calls.evalArgs_plain ?_)
    exact thn hA fun us s2 ⟨vs, H2, I2, r2, e1, e2⟩ => by
      subst e1 e2
      exact hm pins s2 σ H2 (.ref a) _ (.ref a) us Q I2 rfl r2 ⟨rfl, rfl, rfl, q⟩
  rcases hl with hl | ⟨hl, ob, u, hp, hc, hdn⟩
  · obtain ⟨its, rv, ⟨o2, n2, ho2, hc2, hd2, he2⟩, _⟩ := I1.list hl
    refine ⟨"list", "list.index", PySem.F.plainAttrs_list, PySem.F.slot_list_index, PySem.F.type_list_index, ⟨o2, ho2, hc2⟩, fun b e => by cases e; exact ⟨o2, ho2, hd2⟩, args ?_⟩
    intro pins s σ H x xs v us Q' I rx rs ⟨e1, e2, e3, qq⟩
    subst e1 e2 e3
    refine mt_index pins s σ H _ _ v us Q' I rx rs ⟨a, _, _, j, .int z, rfl, rfl, hl, rfl, flatI ns, by rw [List.getElem?_map, h1]; rfl, by rw [eqV_ints, decide_eq_true rfl], fun m z' hm e => ?_, qq⟩
    obtain ⟨n, hn, rfl⟩ := map_at e
    rw [eqV_ints, decide_eq_false]; intro e; subst e; exact h2 m hm hn
  · have hg : s1.heap.get? a = some ob := (I1.hok a _ hp).1
    refine ⟨"tuple", "tuple.index", PySem.F.plainAttrs_tuple, PySem.F.slot_tuple_index, PySem.F.type_tuple_index, ⟨ob, hg, hc⟩, fun b e => by cases e; exact ⟨ob, hg, hdn⟩, args ?_⟩
    intro pins s σ H x xs v us Q' I rx rs ⟨e1, e2, e3, qq⟩
    subst e1 e2 e3
    exact mt_idxT pins s σ H _ _ v us Q' I rx rs ⟨a, ns, z, j, rfl, rfl, hl, h1, h2, qq⟩
end

/-! ### repr of anything that the laws hand in -/
/-- a small dict of whole numbers -/
def dctD (kvs : List (Int × Int)) : PyData := .dict (kvs.map fun p => (.int p.1, .int p.2))
/-- data, or a dict of whole numbers -/
inductive Dw (K : PySem.W.Frag) (H : Hp) : V → PyData → Prop
  | dv {v : V} {d : PyData} : Dv K H v d → Dw K H v d
  | dct {a : Addr} {kvs : List (Int × Int)} : H a = some (.dK (kvs.map fun p => (.inl p.1, .int p.2))) → Dw K H (.ref a) (dctD kvs)
section
variable {K : PySem.W.Frag} {H H' : Hp} {v : V} {d : PyData} {Q : VK}
theorem Dw.same (h : Dw K H v d) (s : Same H H') : Dw K H' v d := by
  cases h with
  | dv h => exact .dv (h.same s)
  | dct h => exact .dct (s _ _ h)
theorem Dw.seq {ds : List PyData} (h : Dw K H v d) (e : seqD d = some ds) : Dv K H v d := by
  cases h with
  | dv h => exact h
  | dct h => cases e
theorem w_isS {p : Addr} (hp : H p = some (.tup [.ty "list", .ty "tuple"])) (h : Dw K H v d) (q : Q (.bl (seqD d).isSome) H) : rIsiT K [v, .ref p] H Q := by
  cases h with
  | dv h => exact d_isS hp h q
  | dct h => exact r_isS hp (.inr (.inr ⟨_, h⟩)) (by simp [sqOf, h]; exact q)
end
end Jv

/-! ### sum, max, min of a tuple of whole numbers -/
namespace Jv
open PySem PySem.Spec PyProof.Rows L2
section
variable {prog : Program} {w : World} {A : Around} {E : Value → Shared → Prop} {s : Shared} {t : Addr} {xs : Array (Int × Tok)} {its : List Value} {ns : List Int}
theorem max_tupI {Q : Value → Shared → Prop} (hh : A.handled = none) (ht : s.heap.IsTuple t (intItems xs)) (hn : 0 < xs.size)
    (h : ∀ v h' tk, (intItems xs)[argBest (fun i j => decide (numAt xs i > numAt xs j)) (xs.size - 1)]? = some v → (∀ b o, s.heap.get? b = some o → h'.get? b = some o) → Q v { s with heap := h', toks := tk }) :
    wpAny (model prog w) A (call (.builtin "max") [.ref t]) Q E s := by
  obtain ⟨o, ho, hc, n, hd⟩ := id ht
  have hne : t ≠ s.heap.objs.size := Nat.ne_of_lt (Heap.lt_size ho)
  have hsz : (intItems xs).size = xs.size := by simp [intItems]
  have W := (Walks.tuple (prog := prog) (w := w) (A := A.in1) hh s.heap.objs.size t hne (intItems xs)).toS
  rw [hsz] at W
  refine call_max_walkS (wpAny_pyIter_tuple ht ?_)
  refine ⟨s.heap.objs.size, _, _, _, _, _, _, _, rfl, W, ⟨⟨_, Heap.get?_push_size _ rfl, rfl, rfl⟩, ht.at fun o e => Heap.get?_push_of_some _ e⟩, fun b hb => ?_, hn, CmpOf.ints_gt (numAt xs) (fun _ _ => intItems_at), fun v s' hP hm => ?_⟩
  · rcases List.mem_cons.mp hb with rfl | hb
    · exact Heap.lt_size (Heap.get?_push_size _ rfl)
    · obtain rfl := List.mem_singleton.mp hb
      exact Heap.lt_size (Heap.get?_push_of_some _ ho)
  · obtain ⟨h', g', d', tk', os'⟩ := s'
    have e1 : g' = s.gens := hm.gens
    have e2 : d' = s.drawn := hm.drawn
    have e3 : os' = s.os := hm.os
    subst e1 e2 e3
    exact h v h' tk' hP fun b o e => hm.heap b o (fun hb => absurd (Heap.lt_size e) ((List.mem_singleton.mp hb) ▸ Nat.lt_irrefl _)) (Heap.get?_push_of_some _ e)
theorem min_tupI {Q : Value → Shared → Prop} (hh : A.handled = none) (ht : s.heap.IsTuple t (intItems xs)) (hn : 0 < xs.size)
    (h : ∀ v h' tk, (intItems xs)[argBest (fun i j => decide (numAt xs i < numAt xs j)) (xs.size - 1)]? = some v → (∀ b o, s.heap.get? b = some o → h'.get? b = some o) → Q v { s with heap := h', toks := tk }) :
    wpAny (model prog w) A (call (.builtin "min") [.ref t]) Q E s := by
  obtain ⟨o, ho, hc, n, hd⟩ := id ht
  have hne : t ≠ s.heap.objs.size := Nat.ne_of_lt (Heap.lt_size ho)
  have hsz : (intItems xs).size = xs.size := by simp [intItems]
  have W := (Walks.tuple (prog := prog) (w := w) (A := A.in1) hh s.heap.objs.size t hne (intItems xs)).toS
  rw [hsz] at W
  refine call_min_walkS (wpAny_pyIter_tuple ht ?_)
  refine ⟨s.heap.objs.size, _, _, _, _, _, _, _, rfl, W, ⟨⟨_, Heap.get?_push_size _ rfl, rfl, rfl⟩, ht.at fun o e => Heap.get?_push_of_some _ e⟩, fun b hb => ?_, hn, CmpOf.ints_lt (numAt xs) (fun _ _ => intItems_at), fun v s' hP hm => ?_⟩
  · rcases List.mem_cons.mp hb with rfl | hb
    · exact Heap.lt_size (Heap.get?_push_size _ rfl)
    · obtain rfl := List.mem_singleton.mp hb
      exact Heap.lt_size (Heap.get?_push_of_some _ ho)
  · obtain ⟨h', g', d', tk', os'⟩ := s'
    have e1 : g' = s.gens := hm.gens
    have e2 : d' = s.drawn := hm.drawn
    have e3 : os' = s.os := hm.os
    subst e1 e2 e3
    exact h v h' tk' hP fun b o e => hm.heap b o (fun hb => absurd (Heap.lt_size e) ((List.mem_singleton.mp hb) ▸ Nat.lt_irrefl _)) (Heap.get?_push_of_some _ e)
theorem max_tup {Q : Value → Shared → Prop} (hh : A.handled = none) (hl : s.heap.IsTuple t its.toArray) (hi : IntsAre its ns) (hne : 0 < ns.length)
    (h : ∀ h' tk M t', (∀ b o, s.heap.get? b = some o → h'.get? b = some o) → M ∈ ns → (∀ a, a ∈ ns → a ≤ M) → Q (.int M t') { s with heap := h', toks := tk }) : wpAny (model prog w) A (call (.builtin "max") [.ref t]) Q E s := by
  obtain ⟨xs, e⟩ := hi.allInts.items
  have hn : numsOf (intItems xs).toList = ns := by rw [← e]; exact hi.numsOf
  rw [nums_intItems] at hn
  subst hn
  rw [e] at hl
  have hsz : 0 < xs.size := by simpa using hne
  refine max_tupI hh hl hsz fun v h' tk hv hk => ?_
  obtain ⟨t, rfl⟩ := intItems_at hv
  obtain ⟨h1, h2⟩ := argBest_gt (numAt xs) (xs.size - 1)
  refine h h' tk _ t hk ?_ fun a ha => ?_
  · rw [numAt_eq]; exact PySem.getD_mem (by rw [List.length_map, Array.length_toList]; omega)
  · obtain ⟨j, hj, rfl⟩ := mem_getD ha
    rw [List.length_map, Array.length_toList] at hj
    rw [← numAt_eq]
    exact h2 j (by omega)
theorem min_tup {Q : Value → Shared → Prop} (hh : A.handled = none) (hl : s.heap.IsTuple t its.toArray) (hi : IntsAre its ns) (hne : 0 < ns.length)
    (h : ∀ h' tk M t', (∀ b o, s.heap.get? b = some o → h'.get? b = some o) → M ∈ ns → (∀ a, a ∈ ns → M ≤ a) → Q (.int M t') { s with heap := h', toks := tk }) : wpAny (model prog w) A (call (.builtin "min") [.ref t]) Q E s := by
  obtain ⟨xs, e⟩ := hi.allInts.items
  have hn : numsOf (intItems xs).toList = ns := by rw [← e]; exact hi.numsOf
  rw [nums_intItems] at hn
  subst hn
  rw [e] at hl
  have hsz : 0 < xs.size := by simpa using hne
  refine min_tupI hh hl hsz fun v h' tk hv hk => ?_
  obtain ⟨t, rfl⟩ := intItems_at hv
  obtain ⟨h1, h2⟩ := argBest_lt (numAt xs) (xs.size - 1)
  refine h h' tk _ t hk ?_ fun a ha => ?_
  · rw [numAt_eq]; exact PySem.getD_mem (by rw [List.length_map, Array.length_toList]; omega)
  · obtain ⟨j, hj, rfl⟩ := mem_getD ha
    rw [List.length_map, Array.length_toList] at hj
    rw [← numAt_eq]
    exact h2 j (by omega)
theorem sum_tup {Q : Value → Shared → Prop} (hh : A.handled = none) (hl : s.heap.IsTuple t its.toArray) (hi : IntsAre its ns)
    (h : ∀ h' tk t', (∀ b o, s.heap.get? b = some o → h'.get? b = some o) → Q (.int ns.sum t') { s with heap := h', toks := tk }) : wpAny (model prog w) A (call (.builtin "sum") [.ref t]) Q E s := by
  obtain ⟨xs, e⟩ := hi.allInts.items
  have hn : numsOf (intItems xs).toList = ns := by rw [← e]; exact hi.numsOf
  rw [nums_intItems] at hn
  rw [e] at hl
  refine PySem.W.ktm_sumG hh hl fun h' tk t' hk => ?_
  have := h h' tk t' hk
  rw [preSum_eq, List.take_of_length_le (by simp), hn]; exact this
end
section
variable {X : Cx}
/-- sum, max, min of a list or a tuple of whole numbers -/
def rSumA (K : PySem.W.Frag) : List V → Hp → VK → Prop := fun vs H Q => ∃ (x : V) (ns : List Int), vs = [x] ∧ Sk K H x (ns.map V.int) ∧ Q (.int ns.sum) H
def rMaxA (K : PySem.W.Frag) : List V → Hp → VK → Prop := fun vs H Q => ∃ (x : V) (ns : List Int), vs = [x] ∧ Sk K H x (ns.map V.int) ∧ 0 < ns.length ∧ ∀ m, m ∈ ns → (∀ y, y ∈ ns → y ≤ m) → Q (.int m) H
def rMinA (K : PySem.W.Frag) : List V → Hp → VK → Prop := fun vs H Q => ∃ (x : V) (ns : List Int), vs = [x] ∧ Sk K H x (ns.map V.int) ∧ 0 < ns.length ∧ ∀ m, m ∈ ns → (∀ y, y ∈ ns → m ≤ y) → Q (.int m) H
theorem cr_sumA (hc : X.calm = true) : CallR X (.builtin "sum") (rSumA X.K) := by
  intro pins s σ H vs us Q I r h
  obtain ⟨x, ns, rfl, ⟨a, rfl, hs | hs⟩, q⟩ := h
  · exact cr_sum hc pins s σ H _ us Q I r ⟨a, ns, rfl, hs, q⟩
  · obtain ⟨its, rv, hl, _⟩ := I.tuple hs
    rw [Vals.ref1 r]
    exact sum_tup (I.ok.hd hc) hl rv.ints fun h' tk t' hk => ⟨.int _, H, I.kept hk, ⟨_, rfl⟩, q⟩
theorem cr_maxA (hc : X.calm = true) : CallR X (.builtin "max") (rMaxA X.K) := by
  intro pins s σ H vs us Q I r h
  obtain ⟨x, ns, rfl, ⟨a, rfl, hs | hs⟩, hne, q⟩ := h
  · exact cr_max hc pins s σ H _ us Q I r ⟨a, ns, rfl, hs, hne, q⟩
  · obtain ⟨its, rv, hl, _⟩ := I.tuple hs
    rw [Vals.ref1 r]
    exact max_tup (I.ok.hd hc) hl rv.ints hne fun h' tk m t' hk h1 h2 => ⟨.int _, H, I.kept hk, ⟨_, rfl⟩, q m h1 h2⟩
theorem cr_minA (hc : X.calm = true) : CallR X (.builtin "min") (rMinA X.K) := by
  intro pins s σ H vs us Q I r h
  obtain ⟨x, ns, rfl, ⟨a, rfl, hs | hs⟩, hne, q⟩ := h
  · exact cr_min hc pins s σ H _ us Q I r ⟨a, ns, rfl, hs, hne, q⟩
  · obtain ⟨its, rv, hl, _⟩ := I.tuple hs
    rw [Vals.ref1 r]
    exact min_tup (I.ok.hd hc) hl rv.ints hne fun h' tk m t' hk h1 h2 => ⟨.int _, H, I.kept hk, ⟨_, rfl⟩, q m h1 h2⟩
end
end Jv

/-! ### keyword-only parameters -/
namespace Jv
open PySem PySem.Spec PyProof.Rows L2
section
variable {K : PySem.W.Frag} {fd : FuncData} {ps : List Str} {D : Addr}
theorem bindsK (ms : List (Str × Value)) (hms : ∀ q ∈ ms, PySem.W.nsIn K D q.1 = some (some q.2)) {ds : List Value} {m : Nat} (hm : m + ds.length = ps.length)
    (h : ∀ us : List Value, us.length = m → KwChain D ms (bindArgs fd ⟨us, []⟩) (ps.zip (us ++ ds))) : Binds K fd ps ds := fun s us X hl =>
  BindsTo.of_looks fun M => KwChain.looks X hms (h us (by rw [List.length_append] at hl; omega))
theorem kbK (ms : List (Str × Value)) (hms : ∀ q ∈ ms, PySem.W.nsIn K D q.1 = some (some q.2)) {m : Nat} {ks : List Str} {g : List Value → List Value → List Value} {gV : List V → List V → List V}
    (h : ∀ us ws : List Value, us.length = m → ws.length = ks.length → KwChain D ms (bindArgs fd ⟨us, ks.zip ws⟩) (ps.zip (g us ws)))
    (rel : ∀ {vs : List V} {us : List Value} {zs : List V} {ws : List Value}, Vals vs us → Vals zs ws → Vals (gV vs zs) (g us ws)) : KBn K fd ps m ks g gV :=
  ⟨fun s us ws X h1 h2 => BindsTo.of_looks fun M => KwChain.looks X hms (h us ws h1 h2), rel⟩
theorem vals_getD : ∀ {zs : List V} {ws : List Value}, Vals zs ws → ∀ i, RelV (zs.getD i .non) (ws.getD i .none)
  | _, _, .nil, i => by rw [List.getD_nil, List.getD_nil]; exact rfl
  | _, _, .cons h _, 0 => h
  | _, _, .cons _ t, i + 1 => vals_getD t i
theorem hms0 : ∀ q ∈ ([] : List (Str × Value)), PySem.W.nsIn K D q.1 = some (some q.2) := fun q h => by cases h
theorem hmsC {x : Str} {u : Value} {ms : List (Str × Value)} (h : PySem.W.nsIn K D x = some (some u)) (t : ∀ q ∈ ms, PySem.W.nsIn K D q.1 = some (some q.2)) : ∀ q ∈ (x, u) :: ms, PySem.W.nsIn K D q.1 = some (some q.2) := fun q hq => by
  rcases List.mem_cons.mp hq with e | hq
  · rw [e]; exact h
  · exact t q hq
end
section
variable {X : Cx} {CX : CXT} {k n : Nat} {f : Addr} {fd : FuncData} {ps ks : List Str} {sp : Sp} {E : L2.St → XK} {x : Str} {p pos : Pos} {e : Expr} {es : List Expr} {kws : List Keyword} {t tk : TA} {g : List Value → List Value → List Value} {gV : List V → List V → List V}
def tCallNS (n m : Nat) (sp : Sp) (gV : List V → List V → List V) (E : L2.St → XK) (t tk : TA) : TE := fun σ H Q => t σ H fun vs H1 => tk σ H1 fun zs H2 => vs.length = n ∧ zs.length = m ∧ sp (gV vs zs) H2 Q (E σ)
theorem r_callNS {n m : Nat} {σ : L2.St} {H : Hp} {Q : VK} (h : t σ H fun vs H1 => tk σ H1 fun zs H2 => vs.length = n ∧ zs.length = m ∧ sp (gV vs zs) H2 Q (E σ)) : tCallNS n m sp gV E t tk σ H Q := h
theorem run_fnNX {pins : List (Addr × Obj)} {σ : L2.St} {H : Hp} {s : Shared} {Q : VK} {us ws : List Value} {vs zs : List V} {E : XK} (F : FnOk X.prog X.w X.K X.mg X.base CX k f fd ps sp) (hr : Room k X.A) (hb : KBn X.K fd ps n ks g gV) (hx : PassesAt CX X σ E)
    (I : Inv X pins σ H s) (r : Vals vs us) (rz : Vals zs ws) (l1 : vs.length = n) (l2 : zs.length = ks.length) (h : sp (gV vs zs) H Q E) : wpAny (model X.prog X.w) X.A (call (.ref f) us (ks.zip ws)) (EP X pins σ Q) X.xe s := by
  have r2 := hb.rel r rz
  refine wpAny_call (codeAny_mono (F.run X.A X.stack s H ⟨us, ks.zip ws⟩ (g us ws) (gV vs zs) Q E hr I.env0 (hb.to s us ws I.kIn (r.length.symm.trans l1) (rz.length.symm.trans l2)) r2 h) fun r s' hq => ?_)
  cases r with
  | error e => exact hx pins H s e s' I hq
  | ok fl =>
    cases fl with
    | ret u => exact I.after hq
    | next => exact False.elim hq
    | brk => exact False.elim hq
    | cont => exact False.elim hq
theorem pe_callNS (F : FnOk X.prog X.w X.K X.mg X.base CX k f fd ps sp) (hr : Room k X.A) (hg : Gl X x) (hm : X.mg x = some (.ref f)) (hk : PySem.W.keepIn X.K (.ref f) = true) (hb : KBn X.K fd ps n ks g gV) (hx : ∀ σ, PassesAt CX X σ (E σ))
    (ha : PA X (e :: es) t) (hkw : PK X kws tk) (hall : (backToKw pos (keywordEach kws X.env)).all (·.1.isSome) = true := by rfl) (hks : (backToKw pos (keywordEach kws X.env)).filterMap (·.1) = ks := by rfl)
    (hdb : (x == ("__debug__" : Str)) = false := by decide) (he : starEach (e :: es) X.env = (false, eval e X.env) :: starEach es X.env := by rfl)
    (hpl : ((backTo pos (starEach (e :: es) X.env)).any (·.1) || (backToKw pos (keywordEach kws X.env)).any (·.1.isNone)) = false := by rfl) :
    PE X (.Call (.Name x p) (e :: es) kws pos) (tCallNS n ks.length sp gV E t tk) := by
  refine ⟨fun pins s σ H Q I h => ?_⟩
  refine wpAny_Call_Name_kw (ld_glob I hg hm ?_ hdb)
  refine PySem.W.callWith_KW (h₀ := X.base) I.ok.mod.kin hk hall (thn (ha.run pos pins s σ H _ I h) fun us s1 ⟨vs, H1, I1, r, q⟩ => ?_) hpl he
  refine thn (hkw.run pos pins s1 σ H1 _ I1 q) fun ws s2 ⟨zs, H2, I2, rz, l1, l2, q2⟩ => ⟨I2.kIn, ?_⟩
  rw [hks]
  exact run_fnNX F hr hb (hx σ) I2 r rz l1 l2 q2
end
end Jv

/-! ### max(x, default=d) of a list or a tuple of whole numbers -/
namespace JvM
open PySem PySem.Spec PyProof.Rows
section
variable {prog : Program} {w : World} {A : Around} {E : Value → Shared → Prop} {I S : Addr} {fp wr : List Addr} {G : Array GenState → Array GenState → Prop} {n : Nat} {val : Nat → Int} {St : Nat → Shared → Prop} {d : Value} {R : Result → Shared → Prop}
abbrev isV (val : Nat → Int) : Nat → Value → Prop := fun i v => ∃ t, v = .int (val i) t
abbrev bestO (xs : Array Value) (c : Nat) : Obj := { cls := .type "list", dict := none, data := .seq xs c, slots := #[] }
abbrev maxLp (I S : Addr) (d : Value) : Code := .builtin "max.loop" ⟨[.ref I, .none, .ref S], [(Str.ofString "default", d)]⟩
/-- the best so far is that of place m -/
theorem maxd_go (W : WalksS prog w A.in1 I fp wr G n (isV val) St) (out : S ∉ fp) : ∀ (k j m : Nat) (s : Shared) (b : Value) (c : Nat), j + k = n → m < j → (∀ i, i < j → val i ≤ val m) → isV val m b → St j s → s.heap.get? S = some (bestO #[b, b] c) →
    (∀ m' v z, m' < n → (∀ i, i < n → val i ≤ val m') → isV val m' v → Moved (S :: wr) G s z → R (.ok (.ret v)) z) → codeAny (model prog w) A (maxLp I S d) R s := by
  have outW : S ∉ wr := fun h => out (W.sub _ h)
  have wider : ∀ b ∈ wr, b ∈ S :: wr := fun b hb => List.mem_cons_of_mem _ hb
  have apart : ∀ {b : Addr}, b ∉ S :: wr → S ≠ b := fun hb h => hb (h ▸ List.mem_cons_self)
  have nm : (toString "max" ++ toString ".loop" : String) = "max.loop" := by decide
  intro k
  induction k with
  | zero =>
    intro j m s b c hj hm hb hv hst hS hR
    obtain rfl : j = n := by omega
    refine codeAny_builtin F.entry_max_loop ?_
    rw [Around.under_plainId F.plain_max_loop _]
    refine wpAny_bind (wpAny_seqItems hS rfl (wpAny_bind (wpAny_tryCatch (W.done s _ _ hst fun s' mv => ?_))))
    have hS' := mv.heap S _ outW hS
    refine wpAny_bind ?_
    refine wpAny_updateSeq hS' rfl (wpAny_bind (wpAny_letGo (wpAny_pure ?_)))
    exact hR m b _ hm hb hv ((mv.mono wider).then_heap (tk := s'.toks) (Nat.le_refl _) fun x o hx e => (Heap.get?_update_other _ _ (apart hx)).trans e)
  | succ k ih =>
    intro j m s b c hj hm hb hv hst hS hR
    refine codeAny_builtin F.entry_max_loop ?_
    rw [Around.under_plainId F.plain_max_loop _]
    refine wpAny_bind (wpAny_seqItems hS rfl (wpAny_bind (wpAny_tryCatch (W.item j s _ _ (by omega) hst fun v s' hP hst' mv => ?_))))
    have hS' := mv.heap S _ outW hS
    refine wpAny_bind (wpAny_pure ?_)
    refine wpAny_bind (wpAny_tryCatch (wpAny_holding (wpAny_bind (CmpOf.ints_gt val (fun _ _ h => h) j m v b _ _ _ hP hv ?_))))
    refine wpAny_bind (wpAny_holding (wpAny_truthy_bool (wpAny_bind (wpAny_letGo (wpAny_pure ?_)))))
    dsimp only
    by_cases c0 : val j > val m
    · rw [decide_eq_true c0, if_pos rfl]
      refine wpAny_bind ?_
      refine wpAny_updateSeq hS' rfl (wpAny_bind (wpAny_letGo ?_))
      rw [nm]
      refine wpAny_pure ⟨plainId_quiet F.plain_max_loop _, ih (j + 1) j _ v _ (by omega) (by omega) (fun i hi => ?_) hP (W.frame _ s' _ s'.toks hst' (Nat.le_refl _) fun x hx o e => ?_) (Heap.get?_update_self _ hS' rfl) fun m' u z h1 h2 h3 h4 => ?_⟩
      · by_cases e : i = j
        · rw [e]; exact Int.le_refl _
        · have := hb i (by omega); omega
      · exact (Heap.get?_update_other _ _ (fun h : S = x => out (h ▸ hx))).trans e
      · exact hR m' u z h1 h2 h3 (Moved.trans W.gtrans ((mv.mono wider).then_heap (Nat.le_refl _) fun x o hx e => (Heap.get?_update_other _ _ (apart hx)).trans e) h4)
    · rw [decide_eq_false c0, if_neg Bool.false_ne_true]
      refine wpAny_bind (wpAny_letGo ?_)
      rw [nm]
      refine wpAny_pure ⟨plainId_quiet F.plain_max_loop _, ih (j + 1) m _ b c (by omega) (by omega) (fun i hi => ?_) hv hst' hS' fun m' u z h1 h2 h3 h4 => hR m' u z h1 h2 h3 (Moved.trans W.gtrans (mv.mono wider) h4)⟩
      by_cases e : i = j
      · rw [e]; omega
      · exact hb i (by omega)
/-- from the start -/
theorem maxd_all (W : WalksS prog w A.in1 I fp wr G n (isV val) St) (out : S ∉ fp) {s : Shared} {c : Nat} (hst : St 0 s) (hS : s.heap.get? S = some (bestO #[] c))
    (h0 : n = 0 → ∀ z, Moved (S :: wr) G s z → R (.ok (.ret d)) z) (hR : ∀ m v z, m < n → (∀ i, i < n → val i ≤ val m) → isV val m v → Moved (S :: wr) G s z → R (.ok (.ret v)) z) : codeAny (model prog w) A (maxLp I S d) R s := by
  have outW : S ∉ wr := fun h => out (W.sub _ h)
  have wider : ∀ b ∈ wr, b ∈ S :: wr := fun b hb => List.mem_cons_of_mem _ hb
  have apart : ∀ {b : Addr}, b ∉ S :: wr → S ≠ b := fun hb h => hb (h ▸ List.mem_cons_self)
  have nm : (toString "max" ++ toString ".loop" : String) = "max.loop" := by decide
  refine codeAny_builtin F.entry_max_loop ?_
  rw [Around.under_plainId F.plain_max_loop _]
  by_cases hn : n = 0
  · subst hn
    refine wpAny_bind (wpAny_seqItems hS rfl (wpAny_bind (wpAny_tryCatch (W.done s _ _ hst fun s' mv => ?_))))
    refine wpAny_bind (wpAny_rule (wpAny_pure ?_))
    exact h0 rfl s' (mv.mono wider)
  · refine wpAny_bind (wpAny_seqItems hS rfl (wpAny_bind (wpAny_tryCatch (W.item 0 s _ _ (by omega) hst fun v s' hP hst' mv => ?_))))
    have hS' := mv.heap S _ outW hS
    refine wpAny_bind (wpAny_pure ?_)
    refine wpAny_bind ?_
    refine wpAny_updateSeq hS' rfl ?_
    rw [nm]
    refine wpAny_pure ⟨plainId_quiet F.plain_max_loop _, maxd_go W out (n - 1) 1 0 _ v _ (by omega) (by omega) (fun i hi => by rw [show i = 0 by omega]; exact Int.le_refl _) hP (W.frame _ s' _ s'.toks hst' (Nat.le_refl _) fun x hx o e => ?_) (Heap.get?_update_self _ hS' rfl) fun m' u z h1 h2 h3 h4 => ?_⟩
    · exact (Heap.get?_update_other _ _ (fun h : S = x => out (h ▸ hx))).trans e
    · exact hR m' u z h1 h2 h3 (Moved.trans W.gtrans ((mv.mono wider).then_heap (Nat.le_refl _) fun x o hx e => (Heap.get?_update_other _ _ (apart hx)).trans e) h4)
theorem maxd_args (a v : Value) : argsOk "max" ⟨[a], [(Str.ofString "default", v)]⟩ := by unfold argsOk; kernel_rfl
theorem maxd_call {x : Value} {s : Shared} {Q : Value → Shared → Prop}
    (h : wpAny (model prog w) A.in1 (pyIter x) (fun it z => ∃ I fp wr G n val St, it = .ref I ∧ WalksS prog w A.in1 I fp wr G n (isV val) St ∧ St 0 z ∧ (∀ b ∈ fp, b < z.heap.objs.size) ∧ (n = 0 → ∀ y, Moved wr G z y → Q d y) ∧
      ∀ m v y, m < n → (∀ i, i < n → val i ≤ val m) → isV val m v → Moved wr G z y → Q v y) E s) : wpAny (model prog w) A (call (.builtin "max") [x] [(Str.ofString "default", d)]) Q E s := by
  have nm : (toString "max" ++ toString ".loop" : String) = "max.loop" := by decide
  refine kmk_tree F.kind_max F.plain_max F.entry_max (maxd_args _ _) ?_
  refine wpAny_bind (m := Builtin.Builtins.bindParams "max" ["key", "default"] 0 ⟨[], [(Str.ofString "default", d)]⟩) (wpAny_of_eq (a := [none, some d]) (by first | rfl | kernel_rfl) ?_)
  refine wpAny_bind (wpAny_pure (wpAny_bind (wpAny_mono h (fun it z hz => ?_) fun _ _ e => e)))
  obtain ⟨I, fp, wr, G, n, val, St, rfl, W, hst, low, h0, hQ⟩ := hz
  refine wpAny_bind (wpAny_newObj_type ?_)
  have out : z.heap.objs.size ∉ fp := fun m => Nat.lt_irrefl _ (low _ m)
  rw [nm]
  refine wpAny_pure ⟨plainId_quiet F.plain_max_loop _, maxd_all (S := z.heap.objs.size) (c := 0) W out (W.frame 0 z _ z.toks hst (Nat.le_refl _) fun b _ o e => Heap.get?_push_of_some _ e) (Heap.get?_push_size _ rfl) (fun e y mv => ?_) fun m v y h1 h2 h3 mv => ?_⟩
  · exact h0 e y (Moved.drop_new (tk := z.toks) mv (Nat.le_refl _))
  · exact hQ m v y h1 h2 h3 (Moved.drop_new (tk := z.toks) mv (Nat.le_refl _))
end
end JvM
namespace Jv
open PySem PySem.Spec PyProof.Rows L2
/-- the greatest, 0 if there is none -/
def topI (ns : List Int) : Int := ns.foldl max 0
theorem foldl_max : ∀ (ns : List Int) (a m : Int), (m = a ∨ m ∈ ns) → a ≤ m → (∀ y, y ∈ ns → y ≤ m) → ns.foldl max a = m
  | [], a, m, h, _, _ => by
    rcases h with h | h
    · exact h.symm
    · cases h
  | x :: r, a, m, h, h1, h2 => by
    have hx := h2 x List.mem_cons_self
    rw [List.foldl_cons]
    refine foldl_max r (max a x) m ?_ (by omega) fun y hy => h2 y (List.mem_cons_of_mem _ hy)
    rcases h with h | h
    · left; omega
    · rcases List.mem_cons.mp h with h | h
      · left; omega
      · exact .inr h
def rMaxD (K : PySem.W.Frag) : List V → List V → Hp → VK → Prop := fun vs zs H Q => ∃ (x d : V) (ns : List Int), vs = [x] ∧ zs = [d] ∧ Sk K H x (ns.map V.int) ∧ (ns = [] → Q d H) ∧ (∀ m, m ∈ ns → (∀ y, y ∈ ns → y ≤ m) → Q (.int m) H)
section
variable {X : Cx}
theorem walk_any {pins : List (Addr × Obj)} {σ : L2.St} {H : Hp} {s : Shared} {a : Addr} {ns : List Int} {d : V} {dv : Value} {Q : VK} (hh : X.A.handled = none) (I : Inv X pins σ H s) (rd : RelV d dv) (its : List Value) (hi : IntsAre its ns)
    (h : wpAny (model X.prog X.w) X.A.in1 (pyIter (.ref a)) (fun it z => ∃ I fp wr G St, it = .ref I ∧ WalksS X.prog X.w X.A.in1 I fp wr G its.toArray.size (fun i v => its.toArray[i]? = some v) St ∧ St 0 z ∧ (∀ b ∈ fp, b < z.heap.objs.size) ∧
      (∀ y, Moved wr G z y → ∃ h' tk, y = { s with heap := h', toks := tk } ∧ ∀ b o, s.heap.get? b = some o → h'.get? b = some o)) X.xe s)
    (q0 : ns = [] → Q d H) (q1 : ∀ m, m ∈ ns → (∀ y, y ∈ ns → y ≤ m) → Q (.int m) H) : wpAny (model X.prog X.w) X.A (call (.builtin "max") [.ref a] [(Str.ofString "default", dv)]) (EP X pins σ Q) X.xe s := by
  have sz : its.toArray.size = ns.length := by rw [List.size_toArray]; exact hi.length
  refine JvM.maxd_call (wpAny_mono h (fun it z hz => ?_) fun _ _ e => e)
  obtain ⟨I0, fp, wr, G, St, e, W, hst, low, mv⟩ := hz
  have W2 : WalksS X.prog X.w X.A.in1 I0 fp wr G ns.length (JvM.isV fun i => ns.getD i 0) St := by
    rw [sz] at W
    exact ⟨W.sub, W.grefl, W.gtrans, W.frame, fun i s Q E hi0 st hQ => W.item i s Q E hi0 st fun v s' hv => hQ v s' (by
      obtain ⟨t, et⟩ := PyProof.Rows.IntsAre.int_at hi i v (by rw [← hv]; simp)
      exact ⟨t, et⟩), W.done, W.self⟩
  refine ⟨I0, fp, wr, G, ns.length, _, St, e, W2, hst, low, fun e0 y hy => ?_, fun m v y hm hb hv hy => ?_⟩
  · obtain ⟨h', tk, rfl, kp⟩ := mv y hy
    exact ⟨d, H, I.kept kp, rd, q0 (List.eq_nil_of_length_eq_zero e0)⟩
  · obtain ⟨h', tk, rfl, kp⟩ := mv y hy
    obtain ⟨t, rfl⟩ := hv
    refine ⟨.int _, H, I.kept kp, ⟨t, rfl⟩, q1 _ ?_ fun z hz => ?_⟩
    · show ns.getD m 0 ∈ ns
      exact PySem.getD_mem hm
    · obtain ⟨j, hj, rfl⟩ := mem_getD hz
      exact hb j hj

theorem cr_maxD (hc : X.calm = true) : CallRK X (.builtin "max") [Str.ofString "default"] (rMaxD X.K) := by
  intro pins s σ H vs zs us ws Q I r rz h
  obtain ⟨x, d, ns, rfl, rfl, ⟨a, rfl, hs | hs⟩, q0, q1⟩ := h
  · obtain ⟨its, rv, hl, hz⟩ := I.list hs
    obtain ⟨dv, rfl, rd⟩ := vals1 rz
    rw [Vals.ref1 r]
    have hh := I.ok.hd hc
    refine walk_any hh I rd its rv.ints ?_ q0 q1
    have hl2 := hl.isList
    obtain ⟨o, ho, _⟩ := id hl2
    have hne : a ≠ s.heap.objs.size := Nat.ne_of_lt (Heap.lt_size ho)
    refine wpAny_pyIter_list hl2 ⟨_, _, _, _, _, rfl, (Walks.list (prog := X.prog) (w := X.w) (A := X.A.in1) hh s.heap.objs.size a hne its.toArray).toS, ⟨⟨_, Heap.get?_push_size _ rfl, rfl, rfl⟩, hl2.at fun o e => Heap.get?_push_of_some _ e⟩, fun b hb => ?_, fun y mv => ?_⟩
    · rcases List.mem_cons.mp hb with rfl | hb
      · exact Heap.lt_size (Heap.get?_push_size _ rfl)
      · rw [List.mem_singleton.mp hb]
        exact Heap.lt_size (Heap.get?_push_of_some _ ho)
    · obtain ⟨h', g', d', tk', os'⟩ := y
      have e1 : g' = s.gens := mv.gens
      have e2 : d' = s.drawn := mv.drawn
      have e3 : os' = s.os := mv.os
      subst e1 e2 e3
      exact ⟨h', tk', rfl, fun b o e => mv.heap b o (fun hb => absurd (Heap.lt_size e) ((List.mem_singleton.mp hb) ▸ Nat.lt_irrefl _)) (Heap.get?_push_of_some _ e)⟩
  · obtain ⟨its, rv, ht, hz⟩ := I.tuple hs
    obtain ⟨dv, rfl, rd⟩ := vals1 rz
    rw [Vals.ref1 r]
    have hh := I.ok.hd hc
    refine walk_any hh I rd its rv.ints ?_ q0 q1
    obtain ⟨o, ho, _⟩ := id ht
    have hne : a ≠ s.heap.objs.size := Nat.ne_of_lt (Heap.lt_size ho)
    have ht : s.heap.IsTuple a its.toArray := ht
    refine wpAny_pyIter_tuple ht ⟨_, _, _, _, _, rfl, (Walks.tuple (prog := X.prog) (w := X.w) (A := X.A.in1) hh s.heap.objs.size a hne its.toArray).toS, ⟨⟨_, Heap.get?_push_size _ rfl, rfl, rfl⟩, ht.at fun o e => Heap.get?_push_of_some _ e⟩, fun b hb => ?_, fun y mv => ?_⟩
    · rcases List.mem_cons.mp hb with rfl | hb
      · exact Heap.lt_size (Heap.get?_push_size _ rfl)
      · rw [List.mem_singleton.mp hb]
        exact Heap.lt_size (Heap.get?_push_of_some _ ho)
    · obtain ⟨h', g', d', tk', os'⟩ := y
      have e1 : g' = s.gens := mv.gens
      have e2 : d' = s.drawn := mv.drawn
      have e3 : os' = s.os := mv.os
      subst e1 e2 e3
      exact ⟨h', tk', rfl, fun b o e => mv.heap b o (fun hb => absurd (Heap.lt_size e) ((List.mem_singleton.mp hb) ▸ Nat.lt_irrefl _)) (Heap.get?_push_of_some _ e)⟩
/-- what max(x, default=0) gives -/
theorem r_maxD {K : PySem.W.Frag} {H : Hp} {Q : VK} {x : V} {ns : List Int} (hx : Sk K H x (ns.map V.int)) (nn : ∀ n ∈ ns, 0 ≤ n) (q : Q (.int (topI ns)) H) : rMaxD K [x] [.int 0] H Q := by
  refine ⟨x, _, ns, rfl, rfl, hx, fun e => ?_, fun m h1 h2 => ?_⟩
  · rw [e] at q; exact q
  · have : topI ns = m := foldl_max ns 0 m (.inr h1) (nn m h1) h2
    rw [this] at q; exact q
end
end Jv

/-! ### a tuple that is not empty, repeated once or more often -/
namespace Jv
open PySem PySem.Spec PyProof.Rows L2
open PySem.Sem (wp)
theorem tuple_mul1 (l : Addr) (items : Array Value) (n : Nat) (dd : Option Addr) (sl : Array (Option Value)) (u : Tok) :
    Meets (Builtin.«tuple.__mul__» ⟨[.ref l, .int 1 u], []⟩) (fun _ R s => s.heap.get? l = some { cls := .type "tuple", dict := dd, data := .seq items n, slots := sl } ∧ R (.ok (.ret (Value.ref l))) s) :=
  .of_wp fun prog w A R s h => by
    obtain ⟨hp, g, d, tk, os⟩ := s
    obtain ⟨hl, h⟩ := h
    have f1 := AutoSeq1.idx_int
    have c0 : (decide ((1 : Int) < -(2 ^ 63)) || decide ((1 : Int) ≥ 2 ^ 63)) = false := by decide
    have c1 : (items.isEmpty || (1 : Int) == 1) = true := by rw [Bool.or_eq_true]; exact .inr rfl
    wp_walk using wpAny_loadPart' hl
    repeat (first
      | (refine wpAny_ite_false (decide_eq_false (by rw [c0]; exact Bool.false_ne_true)) ?_; wp_walk using wpAny_loadPart' hl)
      | (refine wpAny_ite_true (decide_eq_true (by rw [c1])) ?_; wp_walk using wpAny_loadPart' hl))
    exact ⟨_, rfl, h⟩
def rRepA (K : PySem.W.Frag) : R2 := fun x y H Q => (∃ l xs, x = .ref l ∧ y = .int 1 ∧ SqT K H l xs ∧ Q (.ref l) H) ∨ rRepT K x y H Q
theorem op_repA {X : Cx} : OpR X (binaryOp .Mult) (rRepA X.K) := by
  intro pins s σ H x y v u Q I rx ry h
  rcases h with ⟨l, xs, rfl, rfl, hT, q⟩ | h
  case inr => exact op_repT pins s σ H x y v u Q I rx ry h
  cases rx
  obtain ⟨t, rfl⟩ := ry
  obtain ⟨its, r, ⟨⟨cls, dd, data, sl⟩, ho, hc, n, hd⟩, hs⟩ := I.tuple hT
  simp only at hc hd
  subst hc hd
  exact wpAny_binaryOp_repeat_ref (T := "tuple") (U := "int") (by decide) ⟨_, ho, rfl⟩ (fun s' => typeIs_int s' 1 t) noFill_tuple_mul F.fills_int_mul F.slot_int_rmul repeat_tuple F.slot_int_index.lookup
    (call_meets F.slot_int_rmul (typeIs_int s 1 t) F.entry_int_rmul (F.args_int_rmul_2 _ _) (int_rmul_tuple 1 t l its.toArray n dd sl)
      ⟨ho, rfl, ⟨_, ho, rfl⟩, call_meets F.slot_tuple_mul ⟨_, ho, rfl⟩ F.entry_tuple_mul (F.args_tuple_mul_2 _ _) (tuple_mul1 l its.toArray n dd sl t) ⟨ho, ⟨.ref l, _, I, rfl, q⟩⟩⟩)
end Jv

/-! ### list(zip(xs, ys)) of two lists -/
namespace Jv
open PySem PySem.Spec PyProof.Rows L2 RZ
open PySem.Sem (wp)
/-- a zip: what it owns, whether it knows that this is out -/
abbrev Zs (h : Heap) (z TI TO : Addr) (own : Value) (f : Bool) : Prop :=
  h.get? z = some { cls := .type "zip", dict := none, data := .fields #[own, .bool f, .bool false, .ref TI, .ref TO], slots := #[] }
def Owns (own : Value) : Prop := own = .none ∨ ∃ T : Addr, own = rawInt T
section
variable {prog : Program} {w : World} {A : Around} {E : Value → Shared → Prop} {s : Shared} {z TI TO i1 i2 l1 l2 : Addr} {own : Value} {f : Bool} {k1 k2 : Nat} {xs ys : Array Value} {x y a b : Value}
theorem alive_no {T : Addr} {Q : Option Obj → Shared → Prop} (dead : s.heap.get? T = none) (q : Q none s) : wpAny (model prog w) A (loadIfAlive T) Q E s := by
  have q2 : Q (s.heap.get? T) s := by rw [dead]; exact q
  exact fun _ _ _ => q2
theorem tup_free {Q : Bool → Shared → Prop} (hz : Zs s.heap z TI TO own f) (ho : own = .none ∨ ∃ T : Addr, own = rawInt T ∧ s.heap.get? T = none) (q : Q true s) : wpAny (model prog w) A (Builtin.SmallTypes.ownedTupleIsFree (.ref z)) Q E s := by
  unfold Builtin.SmallTypes.ownedTupleIsFree
  rcases ho with rfl | ⟨T, rfl, dead⟩
  · exact wpAny_bind (wpAny_field hz rfl (x := .none) rfl (wpAny_pure q))
  · refine wpAny_bind (wpAny_field hz rfl (x := rawInt T) rfl ?_)
    show wpAny _ _ (loadIfAlive ((T : Int).toNat) >>= _) _ _ _
    rw [Int.toNat_natCast]
    exact wpAny_bind (alive_no dead (wpAny_pure q))
theorem zln_free {Q : Value → Shared → Prop} (D : ZipApart z TI TO i1 i2 l1 l2) (hz : Zs s.heap z TI TO own f) (ho : own = .none ∨ ∃ T : Addr, own = rawInt T ∧ s.heap.get? T = none) (pI : IsPair s.heap TI (.ref i1) (.ref i2)) (pO : IsPair s.heap TO a b)
    (t1 : s.heap.IsListIter i1 l1 k1) (t2 : s.heap.IsListIter i2 l2 k2) (u1 : s.heap.IsList l1 xs) (u2 : s.heap.IsList l2 ys) (hx : xs[k1]? = some x) (hy : ys[k2]? = some y)
    (hQ : ∀ g, Zs g z TI TO (rawInt s.heap.objs.size) false → IsPair g TO x y → g.IsListIter i1 l1 (k1 + 1) → g.IsListIter i2 l2 (k2 + 1) → IsPair g s.heap.objs.size x y → g.objs.size = s.heap.objs.size + 1 →
      (∀ c o, c ≠ z → c ≠ TO → c ≠ i1 → c ≠ i2 → s.heap.get? c = some o → g.get? c = some o) → Q (.ref s.heap.objs.size) { s with heap := g }) :
    wpAny (model prog w) A (Builtin.«zip.__next__» ⟨[.ref z], []⟩) (fun fin r => ∃ v, fin = .done (.ret v) ∧ Q v r) E s := by
  show wpAny _ _ (field (.ref z) 2 >>= _) _ _ _
  refine wpAny_bind (wpAny_field hz rfl (x := .bool false) rfl ?_)
  show wpAny _ _ (field (.ref z) 3 >>= _) _ _ _
  refine wpAny_bind (wpAny_field hz rfl (x := .ref TI) rfl ?_)
  refine wpAny_bind (wpAny_seqItems pI rfl ?_)
  show wpAny _ _ (Builtin.SmallTypes.ownedTupleIsFree (.ref z) >>= _) _ _ _
  refine wpAny_bind (tup_free hz ho ?_)
  simp only [if_true]
  refine wpAny_bind (wpAny_rule ?_)
  refine wpAny_bind (wpAny_field hz rfl (x := .ref TO) rfl ?_)
  refine wpAny_bind (wpAny_setField_rec hz (by simp) fun g1 hz1 e1 => ?_)
  replace hz1 : Zs g1 z TI TO .ellipsis f := hz1
  refine wpAny_bind ?_
  simp only [List.zipIdx_cons, List.zipIdx_nil, List.forIn_cons, List.forIn_nil]
  refine wpAny_bind (wpAny_bind (wpAny_onRaise ?_))
  show wpAny _ _ (Builtin.SmallTypes.nextOf (.ref i1) >>= _) _ _ _
  refine wpAny_bind (wpAny_nextOf_list_item (t1.extBut e1.extBut D.i1z) (u1.extBut e1.extBut D.l1z) hx fun g2 t1' e2 => wpAny_pure ?_)
  have pO2 : IsPair g2 TO a b := e2.extBut _ _ D.TOi1 (e1.extBut _ _ D.TOz pO)
  refine wpAny_bind (wpAny_seqItems pO2 rfl ?_)
  refine wpAny_bind (wpAny_updateSeq_pair pO2 fun g3 pO3 e3 => ?_)
  replace pO3 : IsPair g3 TO x b := pO3
  refine wpAny_bind (wpAny_letGo (wpAny_pure ?_))
  refine wpAny_bind (wpAny_bind (wpAny_onRaise ?_))
  show wpAny _ _ (Builtin.SmallTypes.nextOf (.ref i2) >>= _) _ _ _
  refine wpAny_bind (wpAny_nextOf_list_item (((t2.extBut e1.extBut D.i2z).extBut e2.extBut D.i12.symm).extBut e3.extBut D.TOi2.symm)
    (((u2.extBut e1.extBut D.l2z).extBut e2.extBut D.l2i1).extBut e3.extBut D.l2TO) hy fun g4 t2' e4 => wpAny_pure ?_)
  have pO4 : IsPair g4 TO x b := e4.extBut _ _ D.TOi2 pO3
  refine wpAny_bind (wpAny_seqItems pO4 rfl ?_)
  refine wpAny_bind (wpAny_updateSeq_pair pO4 fun g5 pO5 e5 => ?_)
  replace pO5 : IsPair g5 TO x y := pO5
  refine wpAny_bind (wpAny_letGo (wpAny_pure (wpAny_pure ?_)))
  refine wpAny_bind (wpAny_seqItems pO5 rfl ?_)
  refine wpAny_bind (wpAny_newTuple ?_)
  have sz : g5.objs.size = s.heap.objs.size := by rw [e5.1, e4.1, e3.1, e2.1, e1.1]
  have hz5 : Zs g5 z TI TO .ellipsis f := e5.extBut _ _ D.TOz.symm (e4.extBut _ _ D.i2z.symm (e3.extBut _ _ D.TOz.symm (e2.extBut _ _ D.i1z.symm hz1)))
  have old5 : ∀ c o, c ≠ z → c ≠ TO → c ≠ i1 → c ≠ i2 → s.heap.get? c = some o → g5.get? c = some o := fun c o n1 n2 n3 n4 e =>
    e5.extBut _ _ n2 (e4.extBut _ _ n4 (e3.extBut _ _ n2 (e2.extBut _ _ n3 (e1.extBut _ _ n1 e))))
  have t15 : g5.IsListIter i1 l1 (k1 + 1) := ((t1'.extBut e3.extBut D.TOi1.symm).extBut e4.extBut D.i12).extBut e5.extBut D.TOi1.symm
  have t25 : g5.IsListIter i2 l2 (k2 + 1) := t2'.extBut e5.extBut D.TOi2.symm
  have zlt : z < g5.objs.size := Heap.lt_size hz5
  show wpAny _ _ (Builtin.SmallTypes.ownedTupleHandOut (.ref z) (.ref g5.objs.size) >>= _) _ _ _
  refine wpAny_bind ?_
  unfold Builtin.SmallTypes.ownedTupleHandOut
  have hz6 : Zs (g5.push { cls := .type "tuple", data := .seq #[x, y] }) z TI TO .ellipsis f := Heap.get?_push_of_some _ hz5
  refine wpAny_bind (wpAny_setField_rec hz6 (by simp) fun g7 hz7 e7 => ?_)
  replace hz7 : Zs g7 z TI TO (rawInt g5.objs.size) f := hz7
  refine wpAny_setField_rec hz7 (by simp) fun g8 hz8 e8 => ?_
  replace hz8 : Zs g8 z TI TO (rawInt g5.objs.size) false := hz8
  have up : ∀ c o, c ≠ z → g5.get? c = some o → g8.get? c = some o := fun c o n1 e => e8.extBut _ _ n1 (e7.extBut _ _ n1 (Heap.get?_push_of_some _ e))
  have new8 : IsPair g8 g5.objs.size x y := e8.extBut _ _ (Nat.ne_of_gt zlt) (e7.extBut _ _ (Nat.ne_of_gt zlt) (Heap.get?_push_size _ rfl))
  have sz8 : g8.objs.size = g5.objs.size + 1 := by rw [e8.1, e7.1, Heap.size_push]
  rw [sz] at hz8 new8 sz8
  refine wpAny_pure ⟨_, rfl, ?_⟩
  show Q (.ref g5.objs.size) _
  rw [sz]
  exact hQ g8 hz8 (up _ _ D.TOz pO5) (t15.at fun o e => up _ o D.i1z e) (t25.at fun o e => up _ o D.i2z e) new8 sz8 fun c o n1 n2 n3 n4 e => up c o n1 (old5 c o n1 n2 n3 n4 e)
theorem zln_held {T : Addr} {oT : Obj} {Q : Value → Shared → Prop} (D : ZipApart z TI TO i1 i2 l1 l2) (hz : Zs s.heap z TI TO (rawInt T) f) (hT : s.heap.get? T = some oT) (pI : IsPair s.heap TI (.ref i1) (.ref i2))
    (t1 : s.heap.IsListIter i1 l1 k1) (t2 : s.heap.IsListIter i2 l2 k2) (u1 : s.heap.IsList l1 xs) (u2 : s.heap.IsList l2 ys) (hx : xs[k1]? = some x) (hy : ys[k2]? = some y)
    (hQ : ∀ g, Zs g z TI TO (rawInt T) true → g.IsListIter i1 l1 (k1 + 1) → g.IsListIter i2 l2 (k2 + 1) → IsPair g s.heap.objs.size x y → g.objs.size = s.heap.objs.size + 1 →
      (∀ c o, c ≠ z → c ≠ i1 → c ≠ i2 → s.heap.get? c = some o → g.get? c = some o) → Q (.ref s.heap.objs.size) { s with heap := g }) :
    wpAny (model prog w) A (Builtin.«zip.__next__» ⟨[.ref z], []⟩) (fun fin r => ∃ v, fin = .done (.ret v) ∧ Q v r) E s := by
  show wpAny _ _ (field (.ref z) 2 >>= _) _ _ _
  refine wpAny_bind (wpAny_field hz rfl (x := .bool false) rfl ?_)
  show wpAny _ _ (field (.ref z) 3 >>= _) _ _ _
  refine wpAny_bind (wpAny_field hz rfl (x := .ref TI) rfl ?_)
  refine wpAny_bind (wpAny_seqItems pI rfl ?_)
  show wpAny _ _ (Builtin.SmallTypes.ownedTupleIsFree (.ref z) >>= _) _ _ _
  refine wpAny_bind (wpAny_tupleHeld_zip hz hT fun g1 hz1 e1 => ?_)
  simp only [Bool.false_eq_true, if_false]
  refine wpAny_bind ?_
  rw [← Array.forIn_toList]
  simp only [List.forIn_cons, List.forIn_nil]
  refine wpAny_bind (wpAny_bind (wpAny_holding ?_))
  show wpAny _ _ (Builtin.SmallTypes.nextOf (.ref i1) >>= _) _ _ _
  refine wpAny_bind (wpAny_nextOf_list_item (s := { s with heap := g1 }) (t1.extBut e1.extBut D.i1z) (u1.extBut e1.extBut D.l1z) hx fun g2 t1' e2 => wpAny_pure ?_)
  refine wpAny_pure ?_
  refine wpAny_bind (wpAny_bind (wpAny_holding ?_))
  show wpAny _ _ (Builtin.SmallTypes.nextOf (.ref i2) >>= _) _ _ _
  refine wpAny_bind (wpAny_nextOf_list_item (s := { s with heap := g2 }) ((t2.extBut e1.extBut D.i2z).extBut e2.extBut D.i12.symm) ((u2.extBut e1.extBut D.l2z).extBut e2.extBut D.l2i1) hy fun g3 t2' e3 => wpAny_pure ?_)
  refine wpAny_pure (wpAny_pure ?_)
  show wpAny _ _ (newTuple [x, y] >>= _) _ _ _
  refine wpAny_bind (wpAny_newTuple ?_)
  have sz : g3.objs.size = s.heap.objs.size := by rw [e3.1, e2.1, e1.1]
  have hz3 : Zs g3 z TI TO (rawInt T) true := e3.extBut _ _ D.i2z.symm (e2.extBut _ _ D.i1z.symm hz1)
  have old3 : ∀ c o, c ≠ z → c ≠ i1 → c ≠ i2 → s.heap.get? c = some o → g3.get? c = some o := fun c o n1 n2 n3 e => e3.extBut _ _ n3 (e2.extBut _ _ n2 (e1.extBut _ _ n1 e))
  have t13 : g3.IsListIter i1 l1 (k1 + 1) := t1'.extBut e3.extBut D.i12
  refine wpAny_pure ⟨_, rfl, ?_⟩
  show Q (.ref g3.objs.size) _
  have new4 : IsPair (g3.push { cls := .type "tuple", data := .seq #[x, y] }) g3.objs.size x y := Heap.get?_push_size _ rfl
  have sz4 : (g3.push { cls := .type "tuple", data := .seq #[x, y] }).objs.size = g3.objs.size + 1 := Heap.size_push ..
  rw [sz] at new4 sz4 ⊢
  exact hQ _ (Heap.get?_push_of_some _ hz3) (t13.at fun o e => Heap.get?_push_of_some _ e) (t2'.at fun o e => Heap.get?_push_of_some _ e) new4 sz4 fun c o n1 n2 n3 e => Heap.get?_push_of_some _ (old3 c o n1 n2 n3 e)
theorem zle_free {Q : Fin → Shared → Prop} (hh : A.handled = none) (D : ZipApart z TI TO i1 i2 l1 l2) (hz : Zs s.heap z TI TO own f) (ho : own = .none ∨ ∃ T : Addr, own = rawInt T ∧ s.heap.get? T = none) (pI : IsPair s.heap TI (.ref i1) (.ref i2)) (pO : IsPair s.heap TO a b)
    (t1 : s.heap.IsListIter i1 l1 k1) (t2 : s.heap.IsListIter i2 l2 k2) (u1 : s.heap.IsList l1 xs) (u2 : s.heap.IsList l2 ys) (hend : xs[k1]? = none ∨ ys[k2]? = none)
    (hE : ∀ g e, (∀ c o, c ≠ z → c ≠ TO → c ≠ i1 → c ≠ i2 → s.heap.get? c = some o → g.get? c = some o) → (∃ o, g.get? e = some o ∧ o.cls = .type "StopIteration") → E (.ref e) { s with heap := g }) :
    wpAny (model prog w) A (Builtin.«zip.__next__» ⟨[.ref z], []⟩) Q E s := by
  show wpAny _ _ (field (.ref z) 2 >>= _) _ _ _
  refine wpAny_bind (wpAny_field hz rfl (x := .bool false) rfl ?_)
  show wpAny _ _ (field (.ref z) 3 >>= _) _ _ _
  refine wpAny_bind (wpAny_field hz rfl (x := .ref TI) rfl ?_)
  refine wpAny_bind (wpAny_seqItems pI rfl ?_)
  show wpAny _ _ (Builtin.SmallTypes.ownedTupleIsFree (.ref z) >>= _) _ _ _
  refine wpAny_bind (tup_free hz ho ?_)
  simp only [if_true]
  refine wpAny_bind (wpAny_rule ?_)
  refine wpAny_bind (wpAny_field hz rfl (x := .ref TO) rfl ?_)
  refine wpAny_bind (wpAny_setField_rec hz (by simp) fun g1 hz1 e1 => ?_)
  replace hz1 : Zs g1 z TI TO .ellipsis f := hz1
  refine wpAny_bind ?_
  simp only [List.zipIdx_cons, List.zipIdx_nil, List.forIn_cons, List.forIn_nil]
  refine wpAny_bind (wpAny_bind (wpAny_onRaise ?_))
  show wpAny _ _ (Builtin.SmallTypes.nextOf (.ref i1) >>= _) _ _ _
  cases hx : xs[k1]? with
  | none =>
    refine wpAny_bind (wpAny_nextOf_list_end hh (t1.extBut e1.extBut D.i1z) (u1.extBut e1.extBut D.l1z) hx fun g2 ex e2 he => ?_)
    obtain ⟨oe, at_e, ce⟩ := he
    have hz2 : Zs g2 z TI TO .ellipsis f := e2 _ _ D.i1z.symm hz1
    have nez : ex ≠ z := fun q => by subst q; rw [hz2] at at_e; cases at_e; simp at ce
    exact wpAny_setField_rec hz2 (by simp) fun g3 _ e3 => hE g3 ex (fun c o n1 _ n3 _ q => e3.extBut _ _ n1 (e2 _ _ n3 (e1.extBut _ _ n1 q))) ⟨oe, e3.extBut _ _ nez at_e, ce⟩
  | some x =>
    have hy : ys[k2]? = none := by rcases hend with q | q; rw [hx] at q; cases q; exact q
    refine wpAny_bind (wpAny_nextOf_list_item (t1.extBut e1.extBut D.i1z) (u1.extBut e1.extBut D.l1z) hx fun g2 t1' e2 => wpAny_pure ?_)
    have pO2 : IsPair g2 TO a b := e2.extBut _ _ D.TOi1 (e1.extBut _ _ D.TOz pO)
    refine wpAny_bind (wpAny_seqItems pO2 rfl ?_)
    refine wpAny_bind (wpAny_updateSeq_pair pO2 fun g3 pO3 e3 => ?_)
    refine wpAny_bind (wpAny_letGo (wpAny_pure ?_))
    refine wpAny_bind (wpAny_bind (wpAny_onRaise ?_))
    show wpAny _ _ (Builtin.SmallTypes.nextOf (.ref i2) >>= _) _ _ _
    refine wpAny_bind (wpAny_nextOf_list_end hh (((t2.extBut e1.extBut D.i2z).extBut e2.extBut D.i12.symm).extBut e3.extBut D.TOi2.symm)
      (((u2.extBut e1.extBut D.l2z).extBut e2.extBut D.l2i1).extBut e3.extBut D.l2TO) hy fun g4 ex e4 he => ?_)
    obtain ⟨oe, at_e, ce⟩ := he
    have hz4 : Zs g4 z TI TO .ellipsis f := e4 _ _ D.i2z.symm (e3.extBut _ _ D.TOz.symm (e2.extBut _ _ D.i1z.symm hz1))
    have nez : ex ≠ z := fun q => by subst q; rw [hz4] at at_e; cases at_e; simp at ce
    exact wpAny_setField_rec hz4 (by simp) fun g5 _ e5 => hE g5 ex (fun c o n1 n2 n3 n4 q => e5.extBut _ _ n1 (e4 _ _ n4 (e3.extBut _ _ n2 (e2.extBut _ _ n3 (e1.extBut _ _ n1 q))))) ⟨oe, e5.extBut _ _ nez at_e, ce⟩
theorem zle_held {T : Addr} {oT : Obj} {Q : Fin → Shared → Prop} (hh : A.handled = none) (D : ZipApart z TI TO i1 i2 l1 l2) (hz : Zs s.heap z TI TO (rawInt T) f) (hT : s.heap.get? T = some oT) (pI : IsPair s.heap TI (.ref i1) (.ref i2))
    (t1 : s.heap.IsListIter i1 l1 k1) (t2 : s.heap.IsListIter i2 l2 k2) (u1 : s.heap.IsList l1 xs) (u2 : s.heap.IsList l2 ys) (hend : xs[k1]? = none ∨ ys[k2]? = none)
    (hE : ∀ g e, (∀ c o, c ≠ z → c ≠ i1 → c ≠ i2 → s.heap.get? c = some o → g.get? c = some o) → (∃ o, g.get? e = some o ∧ o.cls = .type "StopIteration") → E (.ref e) { s with heap := g }) :
    wpAny (model prog w) A (Builtin.«zip.__next__» ⟨[.ref z], []⟩) Q E s := by
  show wpAny _ _ (field (.ref z) 2 >>= _) _ _ _
  refine wpAny_bind (wpAny_field hz rfl (x := .bool false) rfl ?_)
  show wpAny _ _ (field (.ref z) 3 >>= _) _ _ _
  refine wpAny_bind (wpAny_field hz rfl (x := .ref TI) rfl ?_)
  refine wpAny_bind (wpAny_seqItems pI rfl ?_)
  show wpAny _ _ (Builtin.SmallTypes.ownedTupleIsFree (.ref z) >>= _) _ _ _
  refine wpAny_bind (wpAny_tupleHeld_zip hz hT fun g1 hz1 e1 => ?_)
  simp only [Bool.false_eq_true, if_false]
  refine wpAny_bind ?_
  rw [← Array.forIn_toList]
  simp only [List.forIn_cons, List.forIn_nil]
  refine wpAny_bind (wpAny_bind (wpAny_holding ?_))
  show wpAny _ _ (Builtin.SmallTypes.nextOf (.ref i1) >>= _) _ _ _
  cases hx : xs[k1]? with
  | none =>
    refine wpAny_bind (wpAny_nextOf_list_end (s := { s with heap := g1 }) hh (t1.extBut e1.extBut D.i1z) (u1.extBut e1.extBut D.l1z) hx fun g2 ex e2 he => ?_)
    exact hE g2 ex (fun c o n1 n2 _ q => e2 _ _ n2 (e1.extBut _ _ n1 q)) he
  | some x =>
    have hy : ys[k2]? = none := by rcases hend with q | q; rw [hx] at q; cases q; exact q
    refine wpAny_bind (wpAny_nextOf_list_item (s := { s with heap := g1 }) (t1.extBut e1.extBut D.i1z) (u1.extBut e1.extBut D.l1z) hx fun g2 t1' e2 => wpAny_pure ?_)
    refine wpAny_pure ?_
    refine wpAny_bind (wpAny_bind (wpAny_holding ?_))
    show wpAny _ _ (Builtin.SmallTypes.nextOf (.ref i2) >>= _) _ _ _
    refine wpAny_bind (wpAny_nextOf_list_end (s := { s with heap := g2 }) hh ((t2.extBut e1.extBut D.i2z).extBut e2.extBut D.i12.symm) ((u2.extBut e1.extBut D.l2z).extBut e2.extBut D.l2i1) hy fun g3 ex e3 he => ?_)
    exact hE g3 ex (fun c o n1 n2 n3 q => e3 _ _ n3 (e2.extBut _ _ n2 (e1.extBut _ _ n1 q))) he
theorem zipl_pull {Q : Option Value → Shared → Prop} (D : ZipApart z TI TO i1 i2 l1 l2) (hz : Zs s.heap z TI TO own f) (ho : Owns own) (pI : IsPair s.heap TI (.ref i1) (.ref i2)) (pO : IsPair s.heap TO a b)
    (t1 : s.heap.IsListIter i1 l1 k1) (t2 : s.heap.IsListIter i2 l2 k2) (u1 : s.heap.IsList l1 xs) (u2 : s.heap.IsList l2 ys) (hx : xs[k1]? = some x) (hy : ys[k2]? = some y)
    (hQ : ∀ g own' f', Zs g z TI TO own' f' → Owns own' → (∃ a b, IsPair g TO a b) → g.IsListIter i1 l1 (k1 + 1) → g.IsListIter i2 l2 (k2 + 1) → IsPair g s.heap.objs.size x y → g.objs.size = s.heap.objs.size + 1 →
      (∀ c o, c ≠ z → c ≠ TO → c ≠ i1 → c ≠ i2 → s.heap.get? c = some o → g.get? c = some o) → Q (some (.ref s.heap.objs.size)) { s with heap := g }) :
    wpAny (model prog w) A (pyNext (.ref z)) Q E s := by
  have ty : s.TypeIs (.ref z) "zip" := ⟨_, hz, rfl⟩
  unfold pyNext
  refine wpAny_bind (wpAny_attempt (wpAny_callSpecial?_slot (name := Str.ofString "__next__") ty F.slot_zip_next (wpAny_call_entry F.slot_zip_next ty F.entry_zip_next ?_ (F.args_zip_next_1 _))))
  rcases ho with rfl | ⟨T, rfl⟩
  · exact zln_free D hz (.inl rfl) pI pO t1 t2 u1 u2 hx hy fun g a1 a2 a3 a4 a5 a6 a7 => wpAny_pure (hQ g _ _ a1 (.inr ⟨_, rfl⟩) ⟨_, _, a2⟩ a3 a4 a5 a6 a7)
  · cases hT : s.heap.get? T with
    | none => exact zln_free D hz (.inr ⟨T, rfl, hT⟩) pI pO t1 t2 u1 u2 hx hy fun g a1 a2 a3 a4 a5 a6 a7 => wpAny_pure (hQ g _ _ a1 (.inr ⟨_, rfl⟩) ⟨_, _, a2⟩ a3 a4 a5 a6 a7)
    | some oT => exact zln_held D hz hT pI t1 t2 u1 u2 hx hy fun g a1 a3 a4 a5 a6 a7 => wpAny_pure (hQ g _ _ a1 (.inr ⟨T, rfl⟩) ⟨a, b, a7 _ _ D.TOz D.TOi1 D.TOi2 pO⟩ a3 a4 a5 a6 fun c o n1 _ n3 n4 e => a7 c o n1 n3 n4 e)
theorem zipl_out {Q : Option Value → Shared → Prop} (hh : A.handled = none) (D : ZipApart z TI TO i1 i2 l1 l2) (hz : Zs s.heap z TI TO own f) (ho : Owns own) (pI : IsPair s.heap TI (.ref i1) (.ref i2)) (pO : IsPair s.heap TO a b)
    (t1 : s.heap.IsListIter i1 l1 k1) (t2 : s.heap.IsListIter i2 l2 k2) (u1 : s.heap.IsList l1 xs) (u2 : s.heap.IsList l2 ys) (hend : xs[k1]? = none ∨ ys[k2]? = none)
    (hQ : ∀ g, (∀ c o, c ≠ z → c ≠ TO → c ≠ i1 → c ≠ i2 → s.heap.get? c = some o → g.get? c = some o) → Q none { s with heap := g }) : wpAny (model prog w) A (pyNext (.ref z)) Q E s := by
  have ty : s.TypeIs (.ref z) "zip" := ⟨_, hz, rfl⟩
  unfold pyNext
  refine wpAny_bind (wpAny_attempt (wpAny_callSpecial?_slot (name := Str.ofString "__next__") ty F.slot_zip_next (wpAny_call_entry F.slot_zip_next ty F.entry_zip_next ?_ (F.args_zip_next_1 _))))
  rcases ho with rfl | ⟨T, rfl⟩
  · refine zle_free hh D hz (.inl rfl) pI pO t1 t2 u1 u2 hend fun g e old he => ?_
    obtain ⟨o, at_e, ce⟩ := he
    refine wpAny_bind (wpAny_isInstance (T := "StopIteration") (b := true) ⟨o, at_e, ce⟩ isSubtype_stop ?_)
    exact wpAny_pure (hQ _ old)
  · cases hT : s.heap.get? T with
    | none =>
      refine zle_free hh D hz (.inr ⟨T, rfl, hT⟩) pI pO t1 t2 u1 u2 hend fun g e old he => ?_
      obtain ⟨o, at_e, ce⟩ := he
      refine wpAny_bind (wpAny_isInstance (T := "StopIteration") (b := true) ⟨o, at_e, ce⟩ isSubtype_stop ?_)
      exact wpAny_pure (hQ _ old)
    | some oT =>
      refine zle_held hh D hz hT pI t1 t2 u1 u2 hend fun g e old he => ?_
      obtain ⟨o, at_e, ce⟩ := he
      refine wpAny_bind (wpAny_isInstance (T := "StopIteration") (b := true) ⟨o, at_e, ce⟩ isSubtype_stop ?_)
      exact wpAny_pure (hQ _ fun c o n1 _ n3 n4 q => old c o n1 n3 n4 q)
end
/-- the zip at z, over the lists at a and b, ahead of turn i -/
def ZLs (z TI TO i1 i2 a b : Addr) (i : Nat) (h : Heap) : Prop := IsPair h TI (.ref i1) (.ref i2) ∧ (∃ x y, IsPair h TO x y) ∧ h.IsListIter i1 a i ∧ h.IsListIter i2 b i ∧ ∃ own f, Zs h z TI TO own f ∧ Owns own
theorem zl_lt {z TI TO i1 i2 a b c : Addr} {i : Nat} {h : Heap} (st : ZLs z TI TO i1 i2 a b i h) (hc : c ∈ [z, TI, TO, i1, i2]) : c < h.objs.size := by
  obtain ⟨pI, ⟨x, y, pO⟩, ⟨_, e1, _⟩, ⟨_, e2, _⟩, own, f, hz, _⟩ := st
  have q : c = z ∨ c = TI ∨ c = TO ∨ c = i1 ∨ c = i2 := by simpa using hc
  rcases q with rfl | rfl | rfl | rfl | rfl
  · exact Heap.lt_size hz
  · exact Heap.lt_size pI
  · exact Heap.lt_size pO
  · exact Heap.lt_size e1
  · exact Heap.lt_size e2
theorem zl_keep {z TI TO i1 i2 a b : Addr} {i : Nat} {h h' : Heap} (st : ZLs z TI TO i1 i2 a b i h) (k : ∀ c ∈ [z, TI, TO, i1, i2], ∀ o, h.get? c = some o → h'.get? c = some o) : ZLs z TI TO i1 i2 a b i h' := by
  obtain ⟨pI, ⟨x, y, pO⟩, t1, t2, own, f, hz, ho⟩ := st
  exact ⟨k TI (by simp) _ pI, ⟨x, y, k TO (by simp) _ pO⟩, t1.at fun o q => k i1 (by simp) o q, t2.at fun o q => k i2 (by simp) o q, own, f, k z (by simp) _ hz, ho⟩
section
variable {X : Cx} {pins : List (Addr × Obj)} {σ : L2.St} {H0 : Hp} {S z TI TO i1 i2 a b : Addr} {xs ys : List V} {A : Around} {R : Result → Shared → Prop}
/-- the pairs that stand at the addresses -/
def PairsAt (xs ys : List V) (H : Hp) (Ts : List Addr) : Prop := ∀ (k : Nat) T, Ts[k]? = some T → ∃ x y, xs[k]? = some x ∧ ys[k]? = some y ∧ H T = some (.tup [x, y])
theorem lz_loop (hA : A.in1.handled = none) (D : ZipApart z TI TO i1 i2 a b) (sx : SqL X.K H0 a xs) (sy : SqL X.K H0 b ys) (few : min xs.length ys.length ≤ 900) (hS : H0 S = none) :
    ∀ (k i : Nat) (H : Hp) (s : Shared) (Ts : List Addr), i + k = min xs.length ys.length → Inv X pins σ H s → ZLs z TI TO i1 i2 a b i s.heap → (∀ c ∈ [z, TI, TO, i1, i2], FpOk X pins H c) → Same H0 H → H S = some (.lst (Ts.map V.ref)) → Ts.length = i → PairsAt xs ys H Ts →
      (∀ H' s' Ts', Inv X pins σ H' s' → Same H0 H' → H' S = some (.lst (Ts'.map V.ref)) → Ts'.length = min xs.length ys.length → PairsAt xs ys H' Ts' → R (.ok (.ret .none)) s') →
      codeAny (model X.prog X.w) A (.builtin "list.extend.loop" ⟨[.ref S, .ref z, .none], []⟩) R s := by
  intro k
  induction k with
  | zero =>
    intro i H s Ts hk I st hf s0 eS lT pa fin
    refine codeAny_builtin (F.entry_extend_loop) ?_
    rw [Around.under_plainId (F.plain_extend_loop) _]
    show wpAny _ A.in1 (pyNext (.ref z) >>= _) _ _ s
    obtain ⟨pI, ⟨x0, y0, pO⟩, t1, t2, own, f, hz, ho⟩ := st
    obtain ⟨its, rv, p, _⟩ := I.list (s0.seq sx)
    obtain ⟨its2, rv2, p2, _⟩ := I.list (s0.seq sy)
    have l1 := rv.length
    have l2 := rv2.length
    have he : its.toArray[i]? = none ∨ its2.toArray[i]? = none := by
      by_cases q : i = xs.length
      · exact .inl (by simp; omega)
      · exact .inr (by simp; omega)
    refine wpAny_bind (zipl_out hA D hz ho pI pO t1 t2 p.isList p2.isList he fun g old => ?_)
    have I1 : Inv X pins σ H { s with heap := g } := I.turnedL (t' := s.toks) (ch := [z, TI, TO, i1, i2]) (fun c o hb q => old c o (fun e => hb (by simp [e])) (fun e => hb (by simp [e])) (fun e => hb (by simp [e])) (fun e => hb (by simp [e])) q) hf
    exact wpAny_pure (fin H _ Ts I1 s0 eS (by omega) pa)
  | succ k ih =>
    intro i H s Ts hk I st hf s0 eS lT pa fin
    refine codeAny_builtin (F.entry_extend_loop) ?_
    rw [Around.under_plainId (F.plain_extend_loop) _]
    show wpAny _ A.in1 (pyNext (.ref z) >>= _) _ _ s
    have cells := fun c hc => zl_lt (c := c) st hc
    obtain ⟨pI, ⟨x0, y0, pO⟩, t1, t2, own, f, hz, ho⟩ := st
    obtain ⟨its, rv, p, _⟩ := I.list (s0.seq sx)
    obtain ⟨its2, rv2, p2, _⟩ := I.list (s0.seq sy)
    have h1 : i < xs.length := by omega
    have h2 : i < ys.length := by omega
    obtain ⟨u, hu, ru⟩ := rv.get (List.getElem?_eq_getElem h1)
    obtain ⟨u2, hu2, ru2⟩ := rv2.get (List.getElem?_eq_getElem h2)
    refine wpAny_bind (zipl_pull D hz ho pI pO t1 t2 p.isList p2.isList (x := u) (y := u2) (by simpa using hu) (by simpa using hu2) fun g own' f' hz' ho' pO' t1' t2' new sz old => ?_)
    have okN : ObjOk X.prog X.w (upd H s.heap.objs.size (.tup [xs[i], ys[i]])) g s.heap.objs.size (.tup [xs[i], ys[i]]) := ⟨by show 2 ≤ sizeLine; decide, [u, u2], .cons ru (.cons ru2 .nil), ⟨_, new, rfl, _, rfl⟩⟩
    have I1 : Inv X pins σ (upd H s.heap.objs.size (.tup [xs[i], ys[i]])) { s with heap := g } :=
      I.turnedNew (t' := s.toks) (ch := [z, TI, TO, i1, i2]) (fun c o hb q => old c o (fun e => hb (by simp [e])) (fun e => hb (by simp [e])) (fun e => hb (by simp [e])) (fun e => hb (by simp [e])) q) hf (Nat.le_refl _) okN
    have fresh : H s.heap.objs.size = none := I.hok.fresh (Nat.le_refl _)
    have sN := same_new (u := .tup [xs[i], ys[i]]) fresh
    have eS1 := sN _ _ eS
    have nST : S ≠ s.heap.objs.size := ne_of_none eS fresh
    obtain ⟨zz, itsS, nS, rS, hlS, atS⟩ := I1.lstM eS1
    have few2 : itsS.length ≤ 900 := by rw [← hlS, List.length_map]; omega
    have big : 900 < sizeLine := by decide
    show wpAny _ A.in1 (updateSeq S (·.push (.ref s.heap.objs.size)) >>= _) _ _ _
    refine wpAny_bind ?_
    refine wpAny_updateSeq atS rfl (wpAny_pure ⟨plainId_quiet F.plain_extend_loop _, ?_⟩) (by rw [List.size_toArray]; omega) (by show (itsS.toArray.push _).size ≤ sizeLine + 1; rw [Array.size_push, List.size_toArray]; omega)
    have I2 := I1.lset (t' := s.toks) (its' := itsS ++ [.ref s.heap.objs.size]) (ys := Ts.map V.ref ++ [V.ref s.heap.objs.size]) (f := (·.push (.ref s.heap.objs.size))) eS1 atS (by simp) (rS.append (.cons (show L2.RelV (.ref s.heap.objs.size) (.ref s.heap.objs.size) from rfl) .nil)) (by rw [List.length_append, List.length_map, List.length_singleton]; omega)
    have cellsS : ∀ c ∈ [z, TI, TO, i1, i2], c ≠ S := fun c hc e => by
      have := (hf c hc).1
      rw [e, eS] at this; cases this
    have hH' : ∀ c ∈ [z, TI, TO, i1, i2], upd (upd H s.heap.objs.size (.tup [xs[i], ys[i]])) S (.lst (Ts.map V.ref ++ [V.ref s.heap.objs.size])) c = none := fun c hc => by
      rw [upd_ne (cellsS c hc), upd_ne (Nat.ne_of_lt (cells c hc))]
      exact (hf c hc).1
    refine ih (i + 1) _ _ (Ts ++ [s.heap.objs.size]) (by omega) I2 ?_ (fun c hc => ?_) ?_ (by rw [upd_same, List.map_append]; rfl) (by rw [List.length_append, lT]; rfl) ?_ fin
    · have st' : ZLs z TI TO i1 i2 a b (i + 1) g := by
        obtain ⟨x1, y1, pO1⟩ := pO'
        exact ⟨old _ _ D.TIz D.TITO D.TIi1 D.TIi2 pI, ⟨x1, y1, pO1⟩, t1', t2', own', f', hz', ho'⟩
      exact zl_keep st' fun c hc o e => (Heap.get?_update_other _ _ (Ne.symm (cellsS c hc))).trans e
    · obtain ⟨_, q1, q2, q3, q4, q5⟩ := hf c hc
      exact ⟨hH' c hc, q1, q2, q3, q4, q5⟩
    · intro c o e
      rw [upd_ne (ne_of_none e hS)]
      exact sN _ _ (s0 _ _ e)
    · intro j T hT
      by_cases hj : j < Ts.length
      · rw [List.getElem?_append_left hj] at hT
        obtain ⟨x, y, e1, e2, e3⟩ := pa j T hT
        refine ⟨x, y, e1, e2, ?_⟩
        have nTS : T ≠ S := fun e => by rw [e, eS] at e3; cases e3
        rw [upd_ne nTS]
        exact sN _ _ e3
      · have h3 := (List.getElem?_eq_some_iff.mp hT).1
        rw [List.length_append, List.length_singleton] at h3
        have e : j = i := by omega
        subst e
        rw [List.getElem?_append_right (by omega), lT, Nat.sub_self] at hT
        cases hT
        refine ⟨xs[j], ys[j], List.getElem?_eq_getElem h1, List.getElem?_eq_getElem h2, ?_⟩
        rw [upd_ne nST.symm, upd_same]
theorem zip_selfL {prog : Program} {w : World} {A : Around} {E : Value → Shared → Prop} {s : Shared} {z TI TO : Addr} {own : Value} {f : Bool} {Q : Value → Shared → Prop} (hz : Zs s.heap z TI TO own f) (q : Q (.ref z) s) : wpAny (model prog w) A (pyIter (.ref z)) Q E s := by
  have ty : s.TypeIs (.ref z) "zip" := ⟨_, hz, rfl⟩
  refine wpAny_pyIter_slot ty F.slot_zip_iter (wpAny_call_entry F.slot_zip_iter ty F.entry_zip_iter ?_ (F.args_zip_iter_1 _))
  show wpAny _ _ (ret (.ref z)) _ _ s
  exact wpAny_pure ⟨_, rfl, "zip", _, ty, F.slot_zip_next.lookup, q⟩
theorem zl_no_len : typeLookup (.type "zip") "__len__" = pure none := by rw [typeLookup_type]; rw [builtinLookup_eq_fast]; kernel_rfl
theorem zl_no_hint : typeLookup (.type "zip") "__length_hint__" = pure none := by rw [typeLookup_type]; rw [builtinLookup_eq_fast]; kernel_rfl
/-- S is made longer by what z gives -/
theorem lz_extend {s : Shared} {c0 : Nat} (hT : s.TypeIs (.ref z) "zip") (hi : ∀ (A' : Around) (E : Value → Shared → Prop) (Q : Value → Shared → Prop) (s' : Shared), (s'.heap.get? z = s.heap.get? z) → Q (.ref z) s' → wpAny (model X.prog X.w) A' (pyIter (.ref z)) Q E s') (nS : S ≠ z)
    (hS : s.heap.get? S = some { cls := .type "list", data := .seq #[] c0 })
    (fin : ∀ (h' : Heap) (c1 : Nat), h'.get? S = some { cls := .type "list", data := .seq #[] c1 } → (∀ b o, b ≠ S → s.heap.get? b = some o → h'.get? b = some o) → codeAny (model X.prog X.w) A (.builtin "list.extend.loop" ⟨[.ref S, .ref z, .none], []⟩) R { s with heap := h' }) :
    wpAny (model X.prog X.w) A.in1 (Builtin.List.listExtendWith (.ref S) (.ref z) .none)
      (fun out r => match out with | .done d => R (.ok d) r | .again d => d.quiet = true ∧ codeAny (model X.prog X.w) A d R r) (fun x r => R (.error x) r) s := by
  unfold Builtin.List.listExtendWith
  refine wpAny_bind (wpAny_typeOf hT ?_)
  have g1 : Builtin.List.listSameRef (.ref S) (.ref z) = false := by simp [Builtin.List.listSameRef, nS]
  have g2 : (Value.type "zip" == Value.type "list") = false := by decide
  have g3 : (Value.type "zip" == Value.type "tuple") = false := by decide
  simp only [g1, g2, g3, Bool.or_false, Bool.false_eq_true, if_false]
  refine wpAny_bind (hi _ _ _ _ rfl ?_)
  refine wpAny_bind (wpAny_holding ?_)
  unfold Builtin.List.listLengthHint
  refine wpAny_bind (wpAny_specialOf hT zl_no_len ?_)
  show wpAny _ A.in1 (specialOf (Value.ref z) (Str.ofString "__length_hint__") >>= _) _ _ _
  refine wpAny_bind (wpAny_specialOf hT zl_no_hint ?_)
  refine wpAny_pure ?_
  show wpAny _ A.in1 (rule "list.extend.makes-room" >>= fun _ => Builtin.List.listTouch (.ref S) >>= fun _ => again (.builtin "list.extend.loop" ⟨[.ref S, .ref z, .none], []⟩)) _ _ _
  refine wpAny_bind (wpAny_rule ?_)
  refine wpAny_bind ?_
  show wpAny _ A.in1 (updateSeq S (·.push .none) >>= fun _ => updateSeq S (·.pop)) _ _ _
  refine wpAny_bind (wpAny_updateSeq hS rfl ?_)
  have at2 := Heap.get?_update_self (Obj.mapSeq (·.push Value.none)) hS rfl
  refine wpAny_updateSeq (hz := by seq_fits) at2 rfl ?_
  have at3 := Heap.get?_update_self (Obj.mapSeq (·.pop)) at2 rfl
  exact wpAny_pure ⟨plainId_quiet (F.plain_extend_loop) _, fin _ _ at3 fun b o hb e => (Heap.get?_update_other _ _ (Ne.symm hb)).trans ((Heap.get?_update_other _ _ (Ne.symm hb)).trans e)⟩
end
section
variable {X : Cx} {pins : List (Addr × Obj)} {σ : L2.St} {H : Hp} {s : Shared} {z TI TO i1 i2 a b : Addr} {xs ys : List V}
/-- list(z), z a zip that no turn was taken of -/
theorem lz_call (hc : X.calm = true) (I : Inv X pins σ H s) (D : ZipApart z TI TO i1 i2 a b) (sx : SqL X.K H a xs) (sy : SqL X.K H b ys) (few : min xs.length ys.length ≤ 900) (st : ZLs z TI TO i1 i2 a b 0 s.heap) (hf : ∀ c ∈ [z, TI, TO, i1, i2], FpOk X pins H c) {Q : VK}
    (q : ∀ Ts D H', Same H H' → H D = none → H' D = some (.lst (Ts.map V.ref)) → Ts.length = min xs.length ys.length → PairsAt xs ys H' Ts → Q (.ref D) H') : wpAny (model X.prog X.w) X.A (call (.type "list") [.ref z]) (EP X pins σ Q) X.xe s := by
  have zlt : z < s.heap.objs.size := zl_lt st (by simp)
  have nz : s.heap.objs.size ≠ z := Nat.ne_of_gt zlt
  refine callType_codes (Q₁ := fun ob r => ob = .ref s.heap.objs.size ∧ r = { s with heap := s.heap.push { cls := .type "list", data := .seq #[] } }) F.called_list (F.typeCall_list_1 _) F.entry_list_init (code_list_new _ ⟨rfl, rfl⟩) fun ob r hr => ?_
  obtain ⟨rfl, rfl⟩ := hr
  have at0 : (s.heap.push { cls := .type "list", data := .seq #[] }).get? s.heap.objs.size = some { cls := .type "list", data := .seq #[] } := Heap.get?_push_size _ rfl
  refine ⟨⟨_, at0, rfl⟩, F.args_list_init_2 _ _, ?_⟩
  show wpAny _ X.A.in1.in1 (do let old ← Builtin.List.listItems (.ref s.heap.objs.size); Builtin.List.listUpdate (.ref s.heap.objs.size) (fun _ => #[]); letGo old.toList.reverse; Builtin.List.listExtendWith (.ref s.heap.objs.size) (.ref z) .none) _ _ _
  refine wpAny_bind ?_
  unfold Builtin.List.listItems
  refine wpAny_bind (wpAny_seqItems at0 rfl (wpAny_pure ?_))
  show wpAny _ X.A.in1.in1 (updateSeq s.heap.objs.size (fun _ => #[]) >>= fun _ => letGo (#[] : Array Value).toList.reverse >>= fun _ => Builtin.List.listExtendWith (.ref s.heap.objs.size) (.ref z) .none) _ _ _
  refine wpAny_bind (wpAny_updateSeq at0 rfl ?_)
  have at1 := Heap.get?_update_self (Obj.mapSeq (fun _ => (#[] : Array Value))) at0 rfl
  refine wpAny_bind (wpAny_letGo ?_)
  have up1 : ∀ c o, s.heap.get? c = some o → ((s.heap.push { cls := .type "list", data := .seq #[] }).update s.heap.objs.size (Obj.mapSeq (fun _ => (#[] : Array Value)))).get? c = some o := fun c o e =>
    (Heap.get?_update_other _ _ (Nat.ne_of_gt (Heap.lt_size e))).trans (Heap.get?_push_of_some _ e)
  have zat : ∃ own f, Zs s.heap z TI TO own f := by
    obtain ⟨_, _, _, _, own, f, hz, _⟩ := st
    exact ⟨own, f, hz⟩
  obtain ⟨own, f, hz⟩ := zat
  refine lz_extend (A := X.A.in1) ⟨_, up1 _ _ hz, rfl⟩ (fun A' E Q s' e g => zip_selfL (hz := e.trans (up1 _ _ hz)) g) nz at1 fun h' c1 at2 up2 => ?_
  have up : ∀ c o, s.heap.get? c = some o → h'.get? c = some o := fun c o e => up2 c o (Nat.ne_of_lt (Heap.lt_size e)) (up1 c o e)
  have I1 : Inv X pins σ (upd H s.heap.objs.size (.lst [])) { s with heap := h' } := I.laid (t' := s.toks) up (Nat.le_refl _) ⟨Nat.zero_le _, [], c1, .nil, at2⟩
  have fresh : H s.heap.objs.size = none := I.hok.fresh (Nat.le_refl _)
  have st1 : ZLs z TI TO i1 i2 a b 0 h' := zl_keep st fun c _ o e => up c o e
  refine lz_loop (H0 := H) (A := X.A.in1) (I.ok.hd hc) D sx sy few fresh _ 0 _ _ [] (Nat.zero_add _) I1 st1 (fun c hcm => ?_) (same_new fresh) upd_same rfl (fun k T e => by simp at e) fun H' s' Ts I2 s2 eS lT pa => ⟨rfl, .ref s.heap.objs.size, H', I2, rfl, q Ts _ H' s2 fresh eS lT pa⟩
  obtain ⟨p0, p1, p2, p3, p4, p5⟩ := hf c hcm
  exact ⟨by rw [upd_ne (Nat.ne_of_lt (zl_lt st hcm))]; exact p0, p1, p2, p3, p4, p5⟩
end
/-- list(zip(e, e2)), of two lists -/
def tLstZip (K : PySem.W.Frag) (ta : TA) : TE := fun σ H Q => ta σ H fun vs H1 => ∃ a b xs ys, vs = [.ref a, .ref b] ∧ SqL K H1 a xs ∧ SqL K H1 b ys ∧ min xs.length ys.length ≤ 900 ∧
  ∀ Ts D H', Same H1 H' → H1 D = none → H' D = some (.lst (Ts.map V.ref)) → Ts.length = min xs.length ys.length → PairsAt xs ys H' Ts → Q (.ref D) H'
theorem pe_lstZip {X : Cx} {e e2 : Expr} {ta : TA} {p p2 pos pos2 : Pos} (hg : Gl X "zip") (hm : X.mg "zip" = none) (hg2 : Gl X "list") (hm2 : X.mg "list" = none) (hc : X.calm = true) (ha : PA X [e, e2] ta)
    (hst : starEach [e, e2] X.env = (false, eval e X.env) :: starEach [e2] X.env := by rfl) (hpl : (backTo pos2 (starEach [e2] X.env)).any (·.1) = false := by rfl)
    (hst2 : starEach [.Call (.Name "zip" p2) [e, e2] [] pos2] X.env = (false, eval (.Call (.Name "zip" p2) [e, e2] [] pos2) X.env) :: starEach [] X.env := by rfl) :
    PE X (.Call (.Name "list" p) [.Call (.Name "zip" p2) [e, e2] [] pos2] [] pos) (tLstZip X.K ta) := by
  refine ⟨fun pins s σ H Q I h => ?_⟩
  refine wpAny_Call_Name_kw (ld_blt I hg2 hm2 PyProof.Rows.boot_list ?_)
  refine PyProof.Rows.callWith_type1 ?_ hst2 rfl
  rw [hst2]
  show wpAny _ _ (spliced ((false, eval (.Call (.Name "zip" p2) [e, e2] [] pos2) X.env) :: backTo pos (starEach [] X.env))) _ _ s
  refine Calls.spliced_cons (wpAny_Call_Name_kw (ld_blt I hg hm PyProof.Rows.boot_zip (PyProof.Rows.callWith_type1 (thn (ha.run pos2 pins s σ H _ I h) fun us r1 ⟨vs, H1, I1, rel, q1⟩ => ?_) hst hpl)))
  obtain ⟨a, b, xs, ys, ex, sx, sy, few, q⟩ := q1
  subst ex
  cases rel with
  | cons r rr =>
    cases rr with
    | cons r' rr =>
      cases rr
      cases r
      cases r'
      obtain ⟨its, rv, p1, _⟩ := I1.list sx
      obtain ⟨its2, rv2, p2, _⟩ := I1.list sy
      refine call_zip_2 p1.isList p2.isList fun g hz hTI hTO t1 t2 sz old => ?_
      refine Calls.spliced_nil ?_
      have I2 : Inv X pins σ H1 { r1 with heap := g } := I1.kept (t' := r1.toks) old
      refine lz_call hc I2 (PySem.W.ktu_apart r1.heap.objs.size a b p1.lt p2.lt) sx sy few ⟨hTI, ⟨_, _, hTO⟩, t1, t2, .none, false, hz, .inl rfl⟩ (fun c hcm => ?_) fun Ts D H' s' nD eD lT pa => q Ts D H' s' nD eD lT pa
      have le : r1.heap.objs.size ≤ c := by
        have q : c = r1.heap.objs.size + 4 ∨ c = r1.heap.objs.size + 2 ∨ c = r1.heap.objs.size + 3 ∨ c = r1.heap.objs.size ∨ c = r1.heap.objs.size + 1 := by simpa using hcm
        rcases q with q | q | q | q | q <;> rw [q] <;> omega
      exact I1.fpOk le (I1.hok.fresh le)
end Jv

/-! ### enumerate of a list from a written number -/
namespace Jv
open PySem PySem.Spec PyProof.Rows L2
open PySem.Sem (wp)
/-- the list at a, each item in a new pair behind its number from k0 on -/
def Iek (K : PySem.W.Frag) (a : Addr) (k0 : Int) : It :=
  ⟨fun i H => ∃ (xs : List V) (x : V), SqL K H a xs ∧ xs[i]? = some x, fun i H v H' => ∃ T x, v = .ref T ∧ H T = none ∧ H' = upd H T (.tup [.int (k0 + (i : Nat)), x]) ∧ ∀ xs, SqL K H a xs → xs[i]? = some x, fun i H => ∃ xs : List V, SqL K H a xs ∧ xs.length = i⟩
theorem apartL_it {h : Heap} {it a : Addr} {i : Nat} {vs : Array Value} (t : h.IsListIter it a i) (p : h.IsList a vs) : a ≠ it := fun e => by
  obtain ⟨o, ho, hc, _⟩ := t
  obtain ⟨o2, ho2, hc2, _⟩ := p
  rw [e, ho] at ho2
  cases ho2
  rw [hc] at hc2
  exact absurd (PySem.Value.type.inj hc2) (by decide)
theorem apartL_en {h : Heap} {e it a : Addr} {j : Int} {old : Value} {vs : Array Value} (t : IsEnum h e it j old) (p : h.IsList a vs) : e ≠ a := fun x => by
  obtain ⟨o2, ho2, hc2, _⟩ := p
  rw [← x, t] at ho2
  cases ho2
  exact absurd (PySem.Value.type.inj hc2) (by decide)
theorem turn_enK {P : Program} {w : World} {K : PySem.W.Frag} {elts : List Expr} {kk : Nat} {tpos : Pos} (a e it : Addr) (k0 : Int) :
    Turn P w K (.Tuple elts kk tpos) (Iek K a k0) [e, it] e (fun i h => (∃ old, IsEnum h e it (k0 + (i : Nat)) old) ∧ h.IsListIter it a i ∧ e ≠ it) where
  mem := List.mem_cons_self
  obj := fun i h st b hb => by
    obtain ⟨⟨old, he⟩, ⟨o, ho, hc, hd⟩, _⟩ := st
    rcases List.mem_cons.mp hb with rfl | hb
    · exact ⟨_, he, fun v q => nomatch q⟩
    · rw [List.mem_singleton.mp hb]
      exact ⟨o, ho, fun v q => by rw [hd] at q; cases q⟩
  keep := fun i h h' st k => by
    obtain ⟨⟨old, he⟩, hi, hne⟩ := st
    exact ⟨⟨old, k e List.mem_cons_self _ he⟩, hi.at fun o q => k it (List.mem_cons_of_mem _ (List.mem_singleton.mpr rfl)) o q, hne⟩
  item := by
    intro X hP hw hK hc i pins s σ H E I hf st hg
    subst hP hw hK
    obtain ⟨⟨old, he⟩, hit, hne⟩ := st
    obtain ⟨xs, x, hq, hx⟩ := hg
    obtain ⟨its, rv, p, hz⟩ := I.list hq
    obtain ⟨u, hu, ru⟩ := rv.get hx
    have le : e < s.heap.objs.size := Heap.lt_size he
    have li : it < s.heap.objs.size := by obtain ⟨_, q, _⟩ := hit; exact Heap.lt_size q
    have ea := apartL_en he p.isList
    have lt : i < its.toArray.size := by
      rw [List.size_toArray]
      exact (List.getElem?_eq_some_iff.mp hu).1
    refine wpAny_pyNext_enum_itemC (Draws.list (A := X.A.in1) (I.ok.hd hc) it a (apartL_it hit p.isList) its.toArray) he ⟨hit, p.isList⟩ lt hne (fun m => ?_) fun x' h' tk hP ho hst' hT hsz hk => ?_
    · rcases List.mem_cons.mp m with m | m
      · exact hne m
      · exact ea (List.mem_singleton.mp m)
    obtain rfl : x' = u := by
      have : its.toArray[i]? = some u := by simpa using hu
      rw [this] at hP; exact (Option.some.inj hP).symm
    refine ⟨_, rfl, wpAny_letOwnedTupleGo_enum (s := { s with heap := h', toks := tk + 1 }) ho fun h'' he' sb => ?_⟩
    have hT2 : h''.get? s.heap.objs.size = some { cls := .type "tuple", data := .seq #[.int (k0 + (i : Nat)) tk, x'] } := (sb.2 _ (Nat.ne_of_gt le)).trans hT
    have new : ObjOk X.prog X.w (upd H s.heap.objs.size (.tup [.int (k0 + (i : Nat)), x])) h'' s.heap.objs.size (.tup [.int (k0 + (i : Nat)), x]) :=
      ⟨by show 2 ≤ sizeLine; decide, [.int (k0 + (i : Nat)) tk, x'], .cons ⟨_, rfl⟩ (.cons ru .nil), ⟨_, hT2, rfl, _, rfl⟩⟩
    have I1 : Inv X pins σ (upd H s.heap.objs.size (.tup [.int (k0 + (i : Nat)), x])) { s with heap := h'', toks := tk + 1 } :=
      I.turnedNew (ch := [e, it]) (fun b ob hb q => (sb.2 b (fun z => hb (by simp [z]))).trans (hk b ob (fun z => hb (by simp [z])) (fun z => hb (by simp [z])) q)) hf (Nat.le_refl _) new
    refine ⟨.ref s.heap.objs.size, _, I1, rfl, ⟨_, x, rfl, I.hok.fresh (Nat.le_refl _), rfl, fun ys hy => by rw [I.list_inj hy hq]; exact hx⟩, ⟨⟨x', ?_⟩, hst'.1.at fun o q => (sb.2 it (Ne.symm hne)).trans q, hne⟩, fun b hb => ?_⟩
    · have e1 : k0 + ((i + 1 : Nat) : Int) = k0 + (i : Nat) + 1 := by omega
      rw [e1]; exact he'
    · have lb : b < s.heap.objs.size := by
        rcases List.mem_cons.mp hb with z | z
        · rw [z]; exact le
        · rw [List.mem_singleton.mp z]; exact li
      rw [upd_ne (Nat.ne_of_lt lb)]
      exact (hf b hb).1
  done := by
    intro X hP hw hK hc i pins s σ H E I hf st hg
    subst hP hw hK
    obtain ⟨⟨old, he⟩, hit, hne⟩ := st
    obtain ⟨xs, hq, hx⟩ := hg
    obtain ⟨its, rv, p, hz⟩ := I.list hq
    obtain ⟨f0, f1, f2, f3, f4, f5⟩ := hf it (List.mem_cons_of_mem _ (List.mem_singleton.mpr rfl))
    have hl : i = its.toArray.size := by rw [List.size_toArray, ← rv.length]; exact hx.symm
    subst hl
    exact wpAny_pyNext_enum_endD (Draws.list (A := X.A.in1) (I.ok.hd hc) it a (apartL_it hit p.isList) its.toArray) he ⟨hit, p.isList⟩ fun h' eb => ⟨rfl, I.turned (t' := s.toks) (fun b o hb q => eb b o hb q) f0 f1 f3 f4 f5⟩
  self := fun A i s Q E st h => let ⟨⟨_, he⟩, _⟩ := st; wpAny_pyIter_enum he h
def iEnK (K : PySem.W.Frag) (ta : TA) : TI := fun σ H R => ta σ H fun vs H1 => ∃ a xs k0, vs = [.ref a, .int k0] ∧ SqL K H1 a xs ∧ 0 ≤ k0 ∧ k0 < 1000 ∧ R (Iek K a k0) H1
theorem pi_enK {X : Cx} {e e2 : Expr} {ta : TA} {p pos tpos : Pos} {elts : List Expr} {kk : Nat} (hg : Gl X "enumerate") (hm : X.mg "enumerate" = none) (ha : PA X [e, e2] ta)
    (hs : starEach [e, e2] X.env = (false, eval e X.env) :: starEach [e2] X.env := by rfl) (hpl : (backTo pos (starEach [e2] X.env)).any (·.1) = false := by rfl) :
    PI X (.Tuple elts kk tpos) (.Call (.Name "enumerate" p) [e, e2] [] pos) (iEnK X.K ta) := by
  refine ⟨fun pins s σ H R I h => ?_⟩
  refine Call_ (ld_blt I hg hm boot_enumerate (PyProof.Rows.callWith_type1 (thn (ha.run pos pins s σ H _ I h) fun us s1 ⟨vs, H1, I1, r1, q1⟩ => ?_) hs hpl))
  obtain ⟨a, xs, k0, rfl, hq, k1, k2, q⟩ := q1
  cases r1 with
  | cons r rr =>
    cases rr with
    | cons r' rr =>
      cases rr
      cases r
      obtain ⟨t, rfl⟩ := r'
      obtain ⟨its, rv, p', hz⟩ := I1.list hq
      refine enum_begins (begins_list a its.toArray) p'.isList (by omega) (by omega) fun g he hit hsz hk => wpAny_pyIter_enum he ?_
      have I2 : Inv X pins σ H1 { s1 with heap := g } := I1.kept (t' := s1.toks) hk
      refine ⟨s1.heap.objs.size + 1, [s1.heap.objs.size + 1, s1.heap.objs.size], _, _, H1, rfl, I2, turn_enK a (s1.heap.objs.size + 1) s1.heap.objs.size k0, ⟨⟨.none, by rw [show k0 + ((0 : Nat) : Int) = k0 by simp]; exact he⟩, ⟨_, hit, rfl, rfl⟩, Nat.succ_ne_self _⟩, fun b hb => ?_, q⟩
      have hle : s1.heap.objs.size ≤ b := by
        rcases List.mem_cons.mp hb with z | z
        · rw [z]; exact Nat.le_add_right _ _
        · rw [List.mem_singleton.mp z]; exact Nat.le_refl _
      exact I1.fpOk hle (I1.hok.fresh hle)
section
variable {K : PySem.W.Frag} {a : Addr} {xs : List V} {k0 : Int}
theorem walk_enK : Walk (Iek K a k0) xs.length (fun H => SqL K H a xs) (YPair (fun i => some (.int (k0 + (i : Nat)))) (fun i => xs[i]?)) := by
  refine ⟨fun i _ hi q => ⟨xs, xs[i], q, by simp [hi]⟩, fun _ q => ⟨xs, q, rfl⟩, fun i H v H' _ q y => ?_⟩
  obtain ⟨T, x, h1, h2, h3, h4⟩ := y
  exact ⟨T, .int (k0 + (i : Nat)), x, h1, h2, h3, rfl, h4 xs q⟩
end
end Jv

/-! ### the end of a law that calls a def of its own which makes lambdas -/
namespace Jv
open PySem PySem.Spec PyProof.Rows L2
theorem walkOL {l : PySem.W.OpenLaw} {n k : Nat} {q : Program} {loose : List Str} {XP : (Str → Option Value) → Heap → Prop} {YP : World → Heap → Prop} {d : DefRec} {K : Params → PySem.W.Frag} {CX : World → CXT} {x nm : Str}
    (h1 : l.most = some n) (h2 : n ≤ sizeLine) (h3 : d.params.defaults = []) (h4 : Room k callerA) (hrec : ((recsOf q).any fun e => e.name == nm) = true) (h5 : ∀ (w : World) (h : Heap), YP w h → (K w.params).In h)
    (F : ∀ (w : World) (mg : Str → Option Value) (fa : Addr) (h : Heap), YP w h → (K w.params).In h → h.Ns mainGlobals mg → mg d.name = some (.ref fa) → (∀ f2, mg nm = some (.ref f2) → LamX.OwnTab (K w.params) f2 h) → LamX.LawAtS l w (K w.params) (CX w) k n x mg fa h)
    (quiet : ∀ (w : World) (H : Hp) (s : Shared) (e : Value) (s' : Shared), CX w [] H s (fun _ _ _ => False) e s' → False) :
    PySem.W.WalkO q loose XP YP l.row.toRowW d [] (fun f vs => PySem.call f vs) :=
  Att.attach_callB h1 h3 fun w s₀ s₁ mg mb fa o pm cd doc a vs ns G Y ho hd hcd hmg hobj hints hlen hbits hg => by
    have kin := h5 w _ Y
    have ot : ∀ f2, mg nm = some (.ref f2) → LamX.OwnTab (K w.params) f2 s₁.heap := fun f2 hf2 c0 P0 of_ f0 u0 dd ws sl j1 j2 j3 j4 j5 => by
      obtain ⟨dl, hm, same⟩ := List.any_eq_true.mp hrec
      obtain ⟨a', o', f', c', P', g1, g2, g3, g4, g5, g6⟩ := G.T.tab dl hm
      rw [beq_iff_eq.mp same, hf2] at g1
      cases g1
      rw [kin _ _ j1] at g2
      cases g2
      rw [j2] at g3
      cases g3
      rw [j3] at g4
      cases g4
      obtain ⟨⟨oc, vc, m1, _, m3, m4⟩, there⟩ := g6
      rw [kin _ _ j4] at m1
      cases m1
      cases m3
      rw [j5] at m4
      cases m4
      exact there
    obtain ⟨fd, cs, sp, t1, t2, t3, t4, t5, t6⟩ := F w mg fa _ Y kin G.T.g hmg ot
    exact LamX.law_callTs kin G.T.g G.T.b G.T.builtins G.T.nolimit hg t1 t2 t3 G.T.bmain hobj hints (Nat.le_trans hlen h2) h4 t6 t4 (fun H e sq => t5 H a ns hlen hbits e sq) fun H e s' => quiet w H s₁ e s'
end Jv

/-! ### the walk through a reading -/
local macro_rules | `(tactic| walk_at "r1") => `(tactic| first
  | with_reducible refine Jv.r_seq ?_
  | with_reducible refine Jv.r_asg ?_
  | with_reducible refine Jv.r_gn ?_
  | with_reducible refine Jv.r_ret ?_
  | with_reducible refine Jv.r_retN ?_
  | with_reducible refine Jv.r_drop ?_
  | with_reducible refine Jv.r_if ?_
  | with_reducible refine Jv.r_next ?_
  | with_reducible refine Jv.r_brk ?_
  | with_reducible refine Jv.r_cont ?_
  | ((with_reducible refine' Jv.r_var ?hv ?_); (case hv => rfl))
  | with_reducible refine Jv.r_c ?_
  | with_reducible refine Jv.r_op ?_
  | with_reducible refine Jv.r_un ?_
  | with_reducible refine Jv.r_I0 ?_
  | with_reducible refine Jv.r_U ?_
  | ((with_reducible refine Jv.r_eq ?hs ?_); (case hs => rfl))
  | ((with_reducible refine Jv.r_ne ?hs ?_); (case hs => rfl))
  | with_reducible refine Jv.r_test ?_
  | with_reducible refine Jv.r_B ?_
  | with_reducible refine Jv.r_bl ?_
  | with_reducible refine Jv.r_and ?_
  | with_reducible refine Jv.r_or ?_
  | with_reducible refine Jv.r_not ?_
  | with_reducible refine Jv.r_andV ?_
  | with_reducible refine Jv.r_orV ?_
  | with_reducible refine Jv.r_notV ?_
  | with_reducible refine Jv.r_ife ?_
  | with_reducible refine Jv.r_chain ?_
  | with_reducible refine Jv.r_nil ?_
  | with_reducible refine Jv.r_cons ?_
  | with_reducible refine Jv.r_tup ?_
  | with_reducible refine Jv.r_lst ?_
  | with_reducible refine Jv.r_CB ?_
  | with_reducible refine Jv.r_call ?_
  | with_reducible refine Jv.r_callS ?_
  | with_reducible refine Jv.r_for ?_
  | with_reducible refine Jv.r_iR1 ?_
  | with_reducible refine Jv.r_iR2 ?_
  | with_reducible refine Jv.r_sub ?_
  | with_reducible refine Jv.r_int ?_)
local macro_rules | `(tactic| walk_at "r") => `(tactic| (repeat walk_at "r1"))

local macro_rules | `(tactic| walk_at "cond") => `(tactic| first
  | exact Or.inr ⟨by decide, by decide⟩
  | exact Or.inl ⟨by decide, by decide⟩
  | exact ⟨by decide, by decide⟩
  | exact ⟨by assumption, by assumption⟩
  | exact ⟨by decide, by decide, by decide⟩
  | (show (0 : Int) < _; first | decide | omega)
  | exact Jv.cdivS (by omega) (by omega)
  | exact Or.inr ⟨by omega, by omega⟩
  | exact Or.inl ⟨by omega, by omega⟩)
local macro_rules | `(tactic| walk_at "r1") => `(tactic| ((with_reducible refine Jv.r_I ?hc ?_); (case hc => walk_at "cond")))

local macro_rules | `(tactic| walk_at "ne") => `(tactic| first
  | assumption
  | exact Ne.symm (by assumption)
  | exact L2.ne_of_none (by walk_at "hp") (by assumption)
  | exact Ne.symm (L2.ne_of_none (by walk_at "hp") (by assumption)))
local macro_rules | `(tactic| walk_at "hp") => `(tactic| first
  | assumption
  | exact L2.upd_same
  | ((refine' Jv.kp ?hp1 ?hp2); (case hp2 => assumption); (case hp1 => walk_at "hp"))
  | ((refine' Jv.kpO ?hp1 ?hp2); (case hp1 => walk_at "hp"); (case hp2 => walk_at "ne")))
local macro_rules | `(tactic| walk_at "sq") => `(tactic| first
  | assumption
  | ((refine' Jv.sqT_at ?sq1); (case sq1 => walk_at "hp"))
  | ((refine' Jv.sqL_at ?sq1); (case sq1 => walk_at "hp"))
  | ((refine' Jv.sqT_new ?sq1 ?sq2); (case sq2 => assumption); (case sq1 => walk_at "sq"))
  | ((refine' Jv.sqL_new ?sq1 ?sq2); (case sq2 => assumption); (case sq1 => walk_at "sq"))
  | ((refine' L2.Same.seq ?sq1 ?sq2); (case sq1 => assumption); (case sq2 => assumption))
  | ((refine' Jv.Same.sqT ?sq1 ?sq2); (case sq1 => assumption); (case sq2 => assumption)))
local macro_rules | `(tactic| walk_at "r1") => `(tactic| first
  | ((with_reducible refine' Jv.r_gtup ?hq ?hl ?_); (case hq => walk_at "sq"); (case hl => rfl))
  | with_reducible refine Jv.r_gcons ?_
  | with_reducible refine Jv.r_gnil ?_
  | with_reducible refine Jv.r_iEn ?_
  | with_reducible refine Jv.r_iL ?_
  | with_reducible refine Jv.r_iT ?_
  | with_reducible refine Jv.r_yes ?_
  | with_reducible refine Jv.r_ift ?_
  | with_reducible refine Jv.r_iff ?_
  | ((with_reducible refine' Jv.r_new ?hn ?_); (case hn => exact Nat.le_of_ble_eq_true rfl))
  | ((with_reducible refine' Jv.r_wipe ?he ?_); (case he => rfl)))
local macro_rules | `(tactic| walk_at "len") => `(tactic| first
  | exact Or.inl (by walk_at "sq")
  | exact Or.inr (by walk_at "sq"))
local macro_rules | `(tactic| walk_at "r1") => `(tactic| first
  | ((with_reducible refine' Jv.r_ixL ?hs ?he ?_); (case hs => walk_at "sq"); (case he => rfl))
  | ((with_reducible refine' Jv.r_ixT ?hs ?he ?_); (case hs => walk_at "sq"); (case he => rfl))
  | ((with_reducible refine' Jv.r_setL ?hs ?he ?_); (case hs => walk_at "hp"); (case he => rfl))
  | ((with_reducible refine' Jv.r_len ?hs ?_); (case hs => walk_at "len")))
local macro_rules | `(tactic| walk_at "th") => `(tactic| first
  | assumption
  | exact Jv.Th.same (by assumption) (by assumption)
  | exact Jv.Th.same (by assumption) (Jv.same_new (by assumption))
  | exact trivial)
local macro_rules | `(tactic| walk_at "r1") => `(tactic| first
  | ((with_reducible refine' Jv.r_isB ?hx ?_); (case hx => walk_at "th"))
  | ((with_reducible refine' Jv.r_isI ?hx ?_); (case hx => walk_at "th"))
  | ((with_reducible refine' Jv.r_isS ?hp ?hx ?_); (case hp => walk_at "hp"); (case hx => walk_at "th"))
  | ((with_reducible refine' Jv.r_false ?he ?_); (case he => rfl))
  | ((with_reducible refine' Jv.r_true ?he ?_); (case he => rfl))
  | with_reducible refine Jv.r_rfl ?_)
local macro_rules | `(tactic| walk_at "r2") => `(tactic| first
  | walk_at "r1"
  | ((with_reducible refine' Jv.r_dec1 ?hd ?_); (case hd => omega))
  | ((with_reducible refine' Jv.r_dec0 ?hd ?_); (case hd => omega))
  | with_reducible refine Jv.r_decI (fun _ => ?_) (fun _ => ?_)
  | with_reducible refine Jv.r_ndecI (fun _ => ?_) (fun _ => ?_)
  | with_reducible refine Jv.r_dec (fun _ => ?_) (fun _ => ?_)
  | with_reducible refine Jv.r_ndec (fun _ => ?_) (fun _ => ?_))
local macro_rules | `(tactic| walk_at "rr") => `(tactic| (repeat' walk_at "r2"))
local macro_rules | `(tactic| walk_at "r1") => `(tactic| first
  | with_reducible refine Jv.r_min ?_
  | with_reducible refine Jv.r_max ?_
  | with_reducible refine Jv.r_absN ?_
  | with_reducible refine Jv.r_intN ?_)
local macro_rules | `(tactic| walk_at "r1") => `(tactic| first
  | with_reducible refine Jv.r_bm ?_
  | ((with_reducible refine' Jv.r_tyL ?hp ?_); (case hp => walk_at "hp")))

local macro_rules | `(tactic| walk_at "r1") => `(tactic| first
  | with_reducible refine Jv.r_callN ?_
  | with_reducible refine Jv.r_disp1 ?_
  | with_reducible refine Jv.r_same ?_)

local macro_rules | `(tactic| walk_at "dv") => `(tactic| first
  | assumption
  | exact Jv.Dv.same (by assumption) (by assumption)
  | exact Jv.Dv.same (Jv.same_new (by assumption)) (by assumption)
  | exact Jv.Dv.int _
  | exact Jv.Dv.non
  | exact Jv.Dv.bl _)
local macro_rules | `(tactic| walk_at "r1") => `(tactic| first
  | ((with_reducible refine' Jv.d_isB ?hx ?_); (case hx => walk_at "dv"))
  | ((with_reducible refine' Jv.d_isI ?hx ?_); (case hx => walk_at "dv"))
  | ((with_reducible refine' Jv.d_isS ?hp ?hx ?_); (case hp => walk_at "hp"); (case hx => walk_at "dv")))

namespace K39
open PySem PySem.Spec PyProof.Rows L2
def topS (i : Nat) : Stmt := PySem.Challenge.pw_risingcalls_k39_whole_staircases.main.body.getD i (.Pass ⟨0, 0, 0, 0⟩)
abbrev s_is_whole : Stmt := topS 9
abbrev s_is_sequence : Stmt := topS 10
abbrev s_check_ladder : Stmt := topS 11
abbrev s_allowed_ends : Stmt := topS 15
abbrev s_words_left : Stmt := topS 16
abbrev s_counts_by_words : Stmt := topS 17
abbrev s_split_at : Stmt := topS 18
abbrev s_told_split : Stmt := topS 19
abbrev s_told_within : Stmt := topS 20
abbrev s_told_count : Stmt := topS 21
abbrev s_greatest_answering : Stmt := topS 25
abbrev s_both_tables : Stmt := topS 26
abbrev s_splits_first : Stmt := topS 27
abbrev s_split_for : Stmt := topS 28
abbrev s_check_numbers : Stmt := topS 29
abbrev s_most_both : Stmt := topS 30
abbrev s_both_split : Stmt := topS 31
abbrev s_serves_both : Stmt := topS 32
abbrev s_staircase : Stmt := topS 33
abbrev s_least_both : Stmt := topS 34
abbrev s_Lmix : Stmt := topS 36
abbrev s_Lhand : Stmt := topS 37
abbrev s_Ldraw : Stmt := topS 38
abbrev s_Lis_number : Stmt := topS 39
abbrev s_Lnumbers : Stmt := topS 40
abbrev s_Lsome_ends : Stmt := topS 41
abbrev s_Lallowed : Stmt := topS 42
abbrev s_Lreach : Stmt := topS 43
abbrev s_Llines : Stmt := topS 44
abbrev s_Lodd_ladder : Stmt := topS 45
abbrev s_Lodd_kinds : Stmt := topS 46
abbrev s_Lodd_ends : Stmt := topS 47
abbrev s_Lrefused : Stmt := topS 48
abbrev s_Lcorners : Stmt := topS 49
abbrev s_Lparts : Stmt := topS 50
abbrev s_Lleast : Stmt := topS 51
abbrev s_Lright_number : Stmt := topS 52
abbrev s_Lat_door : Stmt := topS 53
abbrev s_Lright_refusals : Stmt := topS 54
abbrev s_law : Stmt := topS 55
theorem sc_is_whole : FnScope ["thing", "low", "high"] ["thing", "low", "high"] (defScope s_is_whole) := ⟨rfl, rfl, rfl, by decide +kernel, rfl, by decide +kernel, by decide +kernel⟩
theorem sc_is_sequence : FnScope ["thing"] ["thing"] (defScope s_is_sequence) := ⟨rfl, rfl, rfl, by decide +kernel, rfl, by decide +kernel, by decide +kernel⟩
theorem sc_check_ladder : FnScope ["ladder", "most"] ["ladder", "most"] (defScope s_check_ladder) := ⟨rfl, rfl, rfl, by decide +kernel, rfl, by decide +kernel, by decide +kernel⟩
theorem sc_allowed_ends : FnScope ["ladder", "ends", "end"] ["ladder", "ends"] (defScope s_allowed_ends) := ⟨rfl, rfl, rfl, by decide +kernel, rfl, by decide +kernel, by decide +kernel⟩
theorem sc_words_left : FnScope ["ladder", "words"] ["ladder", "words"] (defScope s_words_left) := ⟨rfl, rfl, rfl, by decide +kernel, rfl, by decide +kernel, by decide +kernel⟩
theorem sc_counts_by_words : FnScope ["allowed", "words", "nobody", "found", "_", "told", "asked", "speaking", "waiting", "end", "let"] ["allowed", "words"] (defScope s_counts_by_words) := ⟨rfl, rfl, rfl, by decide +kernel, rfl, by decide +kernel, by decide +kernel⟩
theorem sc_split_at : FnScope ["allowed", "counts", "words", "end"] ["allowed", "counts", "words", "end"] (defScope s_split_at) := ⟨rfl, rfl, rfl, by decide +kernel, rfl, by decide +kernel, by decide +kernel⟩
theorem sc_told_split : FnScope ["ladder", "ends", "words", "end", "allowed", "most"] ["ladder", "ends", "words", "end"] (defScope s_told_split) := ⟨rfl, rfl, rfl, by decide +kernel, rfl, by decide +kernel, by decide +kernel⟩
theorem sc_told_within : FnScope ["ladder", "ends", "words", "end"] ["ladder", "ends", "words", "end"] (defScope s_told_within) := ⟨rfl, rfl, rfl, by decide +kernel, rfl, by decide +kernel, by decide +kernel⟩
theorem sc_told_count : FnScope ["ladder", "count", "later", "_"] ["ladder"] (defScope s_told_count) := ⟨rfl, rfl, rfl, by decide +kernel, rfl, by decide +kernel, by decide +kernel⟩
theorem sc_greatest_answering : FnScope ["counts", "many", "kinds", "most"] ["counts", "many"] (defScope s_greatest_answering) := ⟨rfl, rfl, rfl, by decide +kernel, rfl, by decide +kernel, by decide +kernel⟩
theorem sc_both_tables : FnScope ["allowed", "most", "calls", "found", "let", "splits", "counts", "many", "split", "call"] ["allowed", "most"] (defScope s_both_tables) := ⟨rfl, rfl, rfl, by decide +kernel, rfl, by decide +kernel, by decide +kernel⟩
theorem sc_splits_first : FnScope ["ladder", "ends"] ["ladder", "ends"] (defScope s_splits_first) := ⟨rfl, rfl, rfl, by decide +kernel, rfl, by decide +kernel, by decide +kernel⟩
theorem sc_split_for : FnScope ["ladder", "q", "ends", "splits"] ["ladder", "q", "ends"] (defScope s_split_for) := ⟨rfl, rfl, rfl, by decide +kernel, rfl, by decide +kernel, by decide +kernel⟩
theorem sc_check_numbers : FnScope ["ladder", "ends", "numbers", "number"] ["ladder", "ends", "numbers"] (defScope s_check_numbers) := ⟨rfl, rfl, rfl, by decide +kernel, rfl, by decide +kernel, by decide +kernel⟩
theorem sc_most_both : FnScope ["ladder", "q", "ends"] ["ladder", "q", "ends"] (defScope s_most_both) := ⟨rfl, rfl, rfl, by decide +kernel, rfl, by decide +kernel, by decide +kernel⟩
theorem sc_both_split : FnScope ["ladder", "q", "ends"] ["ladder", "q", "ends"] (defScope s_both_split) := ⟨rfl, rfl, rfl, by decide +kernel, rfl, by decide +kernel, by decide +kernel⟩
theorem sc_serves_both : FnScope ["ladder", "p", "q", "ends"] ["ladder", "p", "q", "ends"] (defScope s_serves_both) := ⟨rfl, rfl, rfl, by decide +kernel, rfl, by decide +kernel, by decide +kernel⟩
theorem sc_staircase : FnScope ["ladder", "ends", "counts", "steps", "split", "q", "many", "further"] ["ladder", "ends"] (defScope s_staircase) := ⟨rfl, rfl, rfl, by decide +kernel, rfl, by decide +kernel, by decide +kernel⟩
theorem sc_least_both : FnScope ["p", "q", "ladder"] ["p", "q"] (defScope s_least_both) := ⟨rfl, rfl, rfl, by decide +kernel, rfl, by decide +kernel, by decide +kernel⟩
theorem sc_Lmix : FnScope ["_law_number", "_law_turn", "_law_one", "_law_two"] ["_law_number", "_law_turn"] (defScope s_Lmix) := ⟨rfl, rfl, rfl, by decide +kernel, rfl, by decide +kernel, by decide +kernel⟩
theorem sc_Lhand : FnScope ["_law_script", "_law_total", "_law_k", "_law_cell"] ["_law_script"] (defScope s_Lhand) := ⟨rfl, rfl, rfl, by decide +kernel, rfl, by decide +kernel, by decide +kernel⟩
theorem sc_Ldraw : FnScope ["_law_hand_here", "_law_many", "_law_cell", "_law_rest"] ["_law_hand_here", "_law_many"] (defScope s_Ldraw) := ⟨rfl, rfl, rfl, by decide +kernel, rfl, by decide +kernel, by decide +kernel⟩
theorem sc_Lis_number : FnScope ["_law_thing"] ["_law_thing"] (defScope s_Lis_number) := ⟨rfl, rfl, rfl, by decide +kernel, rfl, by decide +kernel, by decide +kernel⟩
theorem sc_Lnumbers : FnScope ["_law_thing", "_law_many", "_law_one"] ["_law_thing", "_law_many"] (defScope s_Lnumbers) := ⟨rfl, rfl, rfl, by decide +kernel, rfl, by decide +kernel, by decide +kernel⟩
theorem sc_Lsome_ends : FnScope ["_law_hand_here", "_law_ladder", "_law_found", "_law_k", "_law_at"] ["_law_hand_here", "_law_ladder"] (defScope s_Lsome_ends) := ⟨rfl, rfl, rfl, by decide +kernel, rfl, by decide +kernel, by decide +kernel⟩
theorem sc_Lallowed : FnScope ["_law_ladder", "_law_limits", "_law_stood"] ["_law_ladder", "_law_limits"] (defScope s_Lallowed) := ⟨rfl, rfl, rfl, by decide +kernel, rfl, by decide +kernel, by decide +kernel⟩
theorem sc_Lreach : FnScope ["_law_line", "_law_least_here", "_law_one"] ["_law_line", "_law_least_here"] (defScope s_Lreach) := ⟨rfl, rfl, rfl, by decide +kernel, rfl, by decide +kernel, by decide +kernel⟩
theorem sc_Llines : FnScope ["_law_allowed_here", "_law_lines_here", "_law_k", "_law_stood", "_law_line", "_law_many", "_law_total", "_law_above"] ["_law_allowed_here"] (defScope s_Llines) := ⟨rfl, rfl, rfl, by decide +kernel, rfl, by decide +kernel, by decide +kernel⟩
theorem sc_Lodd_ladder : FnScope ["_law_hand_here", "_law_most", "_law_odd"] ["_law_hand_here", "_law_most"] (defScope s_Lodd_ladder) := ⟨rfl, rfl, rfl, by decide +kernel, rfl, by decide +kernel, by decide +kernel⟩
theorem sc_Lodd_kinds : FnScope ["_law_hand_here", "_law_most", "_law_odd"] ["_law_hand_here", "_law_most"] (defScope s_Lodd_kinds) := ⟨rfl, rfl, rfl, by decide +kernel, rfl, by decide +kernel, by decide +kernel⟩
theorem sc_Lodd_ends : FnScope ["_law_hand_here", "_law_ladder", "_law_odd"] ["_law_hand_here", "_law_ladder"] (defScope s_Lodd_ends) := ⟨rfl, rfl, rfl, by decide +kernel, rfl, by decide +kernel, by decide +kernel⟩
theorem sc_Lrefused : FnScope ["_law_call", "_law_found"] ["_law_call"] (defScope s_Lrefused) := ⟨rfl, rfl, rfl, by decide +kernel, rfl, by decide +kernel, by decide +kernel⟩
theorem sc_Lcorners : FnScope ["_law_line", "_law_found", "_law_k"] ["_law_line"] (defScope s_Lcorners) := ⟨rfl, rfl, rfl, by decide +kernel, rfl, by decide +kernel, by decide +kernel⟩
theorem sc_Lparts : FnScope ["_law_allowed_here", "_law_lines_here", "_law_many", "_law_line"] ["_law_allowed_here", "_law_lines_here", "_law_many"] (defScope s_Lparts) := ⟨rfl, rfl, rfl, by decide +kernel, rfl, by decide +kernel, by decide +kernel⟩
theorem sc_Lleast : FnScope ["_law_lines_here", "_law_one", "_law_other", "_law_ladder", "_law_line"] ["_law_lines_here", "_law_one", "_law_other"] (defScope s_Lleast) := ⟨rfl, rfl, rfl, by decide +kernel, rfl, by decide +kernel, by decide +kernel⟩
theorem sc_Lright_number : FnScope ["_law_ladder", "_law_limits", "_law_allowed_here", "_law_lines_here", "_law_many", "_law_line", "_law_most", "_law_told", "_law_parts_here"] ["_law_ladder", "_law_limits", "_law_allowed_here", "_law_lines_here", "_law_many"] (defScope s_Lright_number) := ⟨rfl, rfl, rfl, by decide +kernel, rfl, by decide +kernel, by decide +kernel⟩
theorem sc_Lat_door : FnScope ["_law_way", "_law_ladder", "_law_many", "_law_limits"] ["_law_way", "_law_ladder", "_law_many", "_law_limits"] (defScope s_Lat_door) := ⟨rfl, rfl, rfl, by decide +kernel, rfl, by decide +kernel, by decide +kernel⟩
theorem sc_Lright_refusals : FnScope ["_law_hand_here", "_law_ladder", "_law_limits", "_law_odd", "_law_odd_ends_here", "_law_odd_kinds_here", "_law_way", "_law_wrong"] ["_law_hand_here", "_law_ladder", "_law_limits"] (defScope s_Lright_refusals) := ⟨rfl, rfl, rfl, by decide +kernel, rfl, by decide +kernel, by decide +kernel⟩
theorem sc_law : FnScope ["_law_script", "_law_hand_here", "_law_ladder", "_law_limits", "_law_allowed_here", "_law_lines_here", "_law_line", "_law_corners_here", "_law_one", "_law_many", "_law_asked", "_law_other", "_law_is_right", "_law_served", "_law_free", "_law_turn", "_law_least_here", "_law_corner"] ["_law_script"] (defScope s_law) := ⟨rfl, rfl, rfl, by decide +kernel, rfl, by decide +kernel, by decide +kernel⟩
structure Tx where
  f_is_whole : Addr
  d_is_whole : FuncData
  f_is_sequence : Addr
  d_is_sequence : FuncData
  f_check_ladder : Addr
  d_check_ladder : FuncData
  f_allowed_ends : Addr
  d_allowed_ends : FuncData
  f_words_left : Addr
  d_words_left : FuncData
  f_counts_by_words : Addr
  d_counts_by_words : FuncData
  f_split_at : Addr
  d_split_at : FuncData
  f_told_split : Addr
  d_told_split : FuncData
  f_told_within : Addr
  d_told_within : FuncData
  f_told_count : Addr
  d_told_count : FuncData
  f_greatest_answering : Addr
  d_greatest_answering : FuncData
  f_both_tables : Addr
  d_both_tables : FuncData
  f_splits_first : Addr
  d_splits_first : FuncData
  f_split_for : Addr
  d_split_for : FuncData
  f_check_numbers : Addr
  d_check_numbers : FuncData
  f_most_both : Addr
  d_most_both : FuncData
  f_both_split : Addr
  d_both_split : FuncData
  f_serves_both : Addr
  d_serves_both : FuncData
  f_staircase : Addr
  d_staircase : FuncData
  f_least_both : Addr
  d_least_both : FuncData
  f_Lmix : Addr
  d_Lmix : FuncData
  f_Lhand : Addr
  d_Lhand : FuncData
  f_Ldraw : Addr
  d_Ldraw : FuncData
  f_Lis_number : Addr
  d_Lis_number : FuncData
  f_Lnumbers : Addr
  d_Lnumbers : FuncData
  f_Lsome_ends : Addr
  d_Lsome_ends : FuncData
  f_Lallowed : Addr
  d_Lallowed : FuncData
  f_Lreach : Addr
  d_Lreach : FuncData
  f_Llines : Addr
  d_Llines : FuncData
  f_Lodd_ladder : Addr
  d_Lodd_ladder : FuncData
  f_Lodd_kinds : Addr
  d_Lodd_kinds : FuncData
  f_Lodd_ends : Addr
  d_Lodd_ends : FuncData
  f_Lrefused : Addr
  d_Lrefused : FuncData
  f_Lcorners : Addr
  d_Lcorners : FuncData
  f_Lparts : Addr
  d_Lparts : FuncData
  f_Lleast : Addr
  d_Lleast : FuncData
  f_Lright_number : Addr
  d_Lright_number : FuncData
  f_Lat_door : Addr
  d_Lat_door : FuncData
  f_Lright_refusals : Addr
  d_Lright_refusals : FuncData
  f_law : Addr
  d_law : FuncData
  C_CallError : Addr
  C_BadLadder : Addr
  C_BadKinds : Addr
  C_BadEnds : Addr
  C_BadEnd : Addr
  C_BadWords : Addr
  t_LADDER_MOST : Tok
  t_TOLD_LADDER_MOST : Tok
  t_COUNT_LADDER_MOST : Tok
  t_BOTH_LADDER_MOST : Tok
  t_LEAST_BOTH_MOST : Tok
  e1_is_whole : List Value
  e2_is_whole : List Value
  e1_check_ladder : List Value
  e3_told_split : List Value
  e3_told_within : List Value
  e1_most_both : List Value
  e1_both_split : List Value
  e1_serves_both : List Value
  e1_staircase : List Value
structure Ok (K : PySem.W.Frag) (mg : Str → Option Value) (T : Tx) : Prop where
  F_is_whole : FunD K "is_whole" "is_whole" (defArgs s_is_whole) (defBody s_is_whole) (defScope s_is_whole) [.non, .non] [] T.f_is_whole T.d_is_whole
  m_is_whole : mg "is_whole" = some (.ref T.f_is_whole)
  b_is_whole : Binds K T.d_is_whole ["thing", "low", "high"] []
  b1_is_whole : Vals [.non] T.e1_is_whole ∧ Binds K T.d_is_whole ["thing", "low", "high"] T.e1_is_whole
  b2_is_whole : Vals [.non, .non] T.e2_is_whole ∧ Binds K T.d_is_whole ["thing", "low", "high"] T.e2_is_whole
  F_is_sequence : Fun K "is_sequence" "is_sequence" s_is_sequence T.f_is_sequence T.d_is_sequence
  m_is_sequence : mg "is_sequence" = some (.ref T.f_is_sequence)
  b_is_sequence : Binds K T.d_is_sequence ["thing"] []
  F_check_ladder : FunD K "check_ladder" "check_ladder" (defArgs s_check_ladder) (defBody s_check_ladder) (defScope s_check_ladder) [(.int 6)] [] T.f_check_ladder T.d_check_ladder
  m_check_ladder : mg "check_ladder" = some (.ref T.f_check_ladder)
  b_check_ladder : Binds K T.d_check_ladder ["ladder", "most"] []
  b1_check_ladder : Vals [(.int 6)] T.e1_check_ladder ∧ Binds K T.d_check_ladder ["ladder", "most"] T.e1_check_ladder
  F_allowed_ends : Fun K "allowed_ends" "allowed_ends" s_allowed_ends T.f_allowed_ends T.d_allowed_ends
  m_allowed_ends : mg "allowed_ends" = some (.ref T.f_allowed_ends)
  b_allowed_ends : Binds K T.d_allowed_ends ["ladder", "ends"] []
  F_words_left : Fun K "words_left" "words_left" s_words_left T.f_words_left T.d_words_left
  m_words_left : mg "words_left" = some (.ref T.f_words_left)
  b_words_left : Binds K T.d_words_left ["ladder", "words"] []
  F_counts_by_words : Fun K "counts_by_words" "counts_by_words" s_counts_by_words T.f_counts_by_words T.d_counts_by_words
  m_counts_by_words : mg "counts_by_words" = some (.ref T.f_counts_by_words)
  b_counts_by_words : Binds K T.d_counts_by_words ["allowed", "words"] []
  F_split_at : Fun K "split_at" "split_at" s_split_at T.f_split_at T.d_split_at
  m_split_at : mg "split_at" = some (.ref T.f_split_at)
  b_split_at : Binds K T.d_split_at ["allowed", "counts", "words", "end"] []
  F_told_split : Fun K "told_split" "told_split" s_told_split T.f_told_split T.d_told_split
  m_told_split : mg "told_split" = some (.ref T.f_told_split)
  b3_told_split : Vals [.non, .non, (.int 0)] T.e3_told_split ∧ Binds K T.d_told_split ["ladder", "ends", "words", "end"] T.e3_told_split
  F_told_within : Fun K "told_within" "told_within" s_told_within T.f_told_within T.d_told_within
  m_told_within : mg "told_within" = some (.ref T.f_told_within)
  b3_told_within : Vals [.non, .non, (.int 0)] T.e3_told_within ∧ Binds K T.d_told_within ["ladder", "ends", "words", "end"] T.e3_told_within
  F_told_count : Fun K "told_count" "told_count" s_told_count T.f_told_count T.d_told_count
  m_told_count : mg "told_count" = some (.ref T.f_told_count)
  b_told_count : Binds K T.d_told_count ["ladder"] []
  F_greatest_answering : Fun K "greatest_answering" "greatest_answering" s_greatest_answering T.f_greatest_answering T.d_greatest_answering
  m_greatest_answering : mg "greatest_answering" = some (.ref T.f_greatest_answering)
  b_greatest_answering : Binds K T.d_greatest_answering ["counts", "many"] []
  F_both_tables : Fun K "both_tables" "both_tables" s_both_tables T.f_both_tables T.d_both_tables
  m_both_tables : mg "both_tables" = some (.ref T.f_both_tables)
  b_both_tables : Binds K T.d_both_tables ["allowed", "most"] []
  F_splits_first : Fun K "splits_first" "splits_first" s_splits_first T.f_splits_first T.d_splits_first
  m_splits_first : mg "splits_first" = some (.ref T.f_splits_first)
  b_splits_first : Binds K T.d_splits_first ["ladder", "ends"] []
  F_split_for : Fun K "split_for" "split_for" s_split_for T.f_split_for T.d_split_for
  m_split_for : mg "split_for" = some (.ref T.f_split_for)
  b_split_for : Binds K T.d_split_for ["ladder", "q", "ends"] []
  F_check_numbers : Fun K "check_numbers" "check_numbers" s_check_numbers T.f_check_numbers T.d_check_numbers
  m_check_numbers : mg "check_numbers" = some (.ref T.f_check_numbers)
  b_check_numbers : Binds K T.d_check_numbers ["ladder", "ends", "numbers"] []
  F_most_both : Fun K "most_both" "most_both" s_most_both T.f_most_both T.d_most_both
  m_most_both : mg "most_both" = some (.ref T.f_most_both)
  b1_most_both : Vals [.non] T.e1_most_both ∧ Binds K T.d_most_both ["ladder", "q", "ends"] T.e1_most_both
  F_both_split : Fun K "both_split" "both_split" s_both_split T.f_both_split T.d_both_split
  m_both_split : mg "both_split" = some (.ref T.f_both_split)
  b1_both_split : Vals [.non] T.e1_both_split ∧ Binds K T.d_both_split ["ladder", "q", "ends"] T.e1_both_split
  F_serves_both : Fun K "serves_both" "serves_both" s_serves_both T.f_serves_both T.d_serves_both
  m_serves_both : mg "serves_both" = some (.ref T.f_serves_both)
  b1_serves_both : Vals [.non] T.e1_serves_both ∧ Binds K T.d_serves_both ["ladder", "p", "q", "ends"] T.e1_serves_both
  F_staircase : Fun K "staircase" "staircase" s_staircase T.f_staircase T.d_staircase
  m_staircase : mg "staircase" = some (.ref T.f_staircase)
  b1_staircase : Vals [.non] T.e1_staircase ∧ Binds K T.d_staircase ["ladder", "ends"] T.e1_staircase
  F_least_both : Fun K "least_both" "least_both" s_least_both T.f_least_both T.d_least_both
  m_least_both : mg "least_both" = some (.ref T.f_least_both)
  b_least_both : Binds K T.d_least_both ["p", "q"] []
  F_Lmix : Fun K "_law_mix" "_law_mix" s_Lmix T.f_Lmix T.d_Lmix
  m_Lmix : mg "_law_mix" = some (.ref T.f_Lmix)
  b_Lmix : Binds K T.d_Lmix ["_law_number", "_law_turn"] []
  F_Lhand : Fun K "_law_hand" "_law_hand" s_Lhand T.f_Lhand T.d_Lhand
  m_Lhand : mg "_law_hand" = some (.ref T.f_Lhand)
  b_Lhand : Binds K T.d_Lhand ["_law_script"] []
  F_Ldraw : Fun K "_law_draw" "_law_draw" s_Ldraw T.f_Ldraw T.d_Ldraw
  m_Ldraw : mg "_law_draw" = some (.ref T.f_Ldraw)
  b_Ldraw : Binds K T.d_Ldraw ["_law_hand_here", "_law_many"] []
  F_Lis_number : Fun K "_law_is_number" "_law_is_number" s_Lis_number T.f_Lis_number T.d_Lis_number
  m_Lis_number : mg "_law_is_number" = some (.ref T.f_Lis_number)
  b_Lis_number : Binds K T.d_Lis_number ["_law_thing"] []
  F_Lnumbers : Fun K "_law_numbers" "_law_numbers" s_Lnumbers T.f_Lnumbers T.d_Lnumbers
  m_Lnumbers : mg "_law_numbers" = some (.ref T.f_Lnumbers)
  b_Lnumbers : Binds K T.d_Lnumbers ["_law_thing", "_law_many"] []
  F_Lsome_ends : Fun K "_law_some_ends" "_law_some_ends" s_Lsome_ends T.f_Lsome_ends T.d_Lsome_ends
  m_Lsome_ends : mg "_law_some_ends" = some (.ref T.f_Lsome_ends)
  b_Lsome_ends : Binds K T.d_Lsome_ends ["_law_hand_here", "_law_ladder"] []
  F_Lallowed : Fun K "_law_allowed" "_law_allowed" s_Lallowed T.f_Lallowed T.d_Lallowed
  m_Lallowed : mg "_law_allowed" = some (.ref T.f_Lallowed)
  b_Lallowed : Binds K T.d_Lallowed ["_law_ladder", "_law_limits"] []
  F_Lreach : Fun K "_law_reach" "_law_reach" s_Lreach T.f_Lreach T.d_Lreach
  m_Lreach : mg "_law_reach" = some (.ref T.f_Lreach)
  b_Lreach : Binds K T.d_Lreach ["_law_line", "_law_least_here"] []
  F_Llines : Fun K "_law_lines" "_law_lines" s_Llines T.f_Llines T.d_Llines
  m_Llines : mg "_law_lines" = some (.ref T.f_Llines)
  b_Llines : Binds K T.d_Llines ["_law_allowed_here"] []
  F_Lodd_ladder : Fun K "_law_odd_ladder" "_law_odd_ladder" s_Lodd_ladder T.f_Lodd_ladder T.d_Lodd_ladder
  m_Lodd_ladder : mg "_law_odd_ladder" = some (.ref T.f_Lodd_ladder)
  b_Lodd_ladder : Binds K T.d_Lodd_ladder ["_law_hand_here", "_law_most"] []
  F_Lodd_kinds : Fun K "_law_odd_kinds" "_law_odd_kinds" s_Lodd_kinds T.f_Lodd_kinds T.d_Lodd_kinds
  m_Lodd_kinds : mg "_law_odd_kinds" = some (.ref T.f_Lodd_kinds)
  b_Lodd_kinds : Binds K T.d_Lodd_kinds ["_law_hand_here", "_law_most"] []
  F_Lodd_ends : Fun K "_law_odd_ends" "_law_odd_ends" s_Lodd_ends T.f_Lodd_ends T.d_Lodd_ends
  m_Lodd_ends : mg "_law_odd_ends" = some (.ref T.f_Lodd_ends)
  b_Lodd_ends : Binds K T.d_Lodd_ends ["_law_hand_here", "_law_ladder"] []
  F_Lrefused : Fun K "_law_refused" "_law_refused" s_Lrefused T.f_Lrefused T.d_Lrefused
  m_Lrefused : mg "_law_refused" = some (.ref T.f_Lrefused)
  b_Lrefused : Binds K T.d_Lrefused ["_law_call"] []
  F_Lcorners : Fun K "_law_corners" "_law_corners" s_Lcorners T.f_Lcorners T.d_Lcorners
  m_Lcorners : mg "_law_corners" = some (.ref T.f_Lcorners)
  b_Lcorners : Binds K T.d_Lcorners ["_law_line"] []
  F_Lparts : Fun K "_law_parts" "_law_parts" s_Lparts T.f_Lparts T.d_Lparts
  m_Lparts : mg "_law_parts" = some (.ref T.f_Lparts)
  b_Lparts : Binds K T.d_Lparts ["_law_allowed_here", "_law_lines_here", "_law_many"] []
  F_Lleast : Fun K "_law_least" "_law_least" s_Lleast T.f_Lleast T.d_Lleast
  m_Lleast : mg "_law_least" = some (.ref T.f_Lleast)
  b_Lleast : Binds K T.d_Lleast ["_law_lines_here", "_law_one", "_law_other"] []
  F_Lright_number : Fun K "_law_right_number" "_law_right_number" s_Lright_number T.f_Lright_number T.d_Lright_number
  m_Lright_number : mg "_law_right_number" = some (.ref T.f_Lright_number)
  b_Lright_number : Binds K T.d_Lright_number ["_law_ladder", "_law_limits", "_law_allowed_here", "_law_lines_here", "_law_many"] []
  F_Lat_door : Fun K "_law_at_door" "_law_at_door" s_Lat_door T.f_Lat_door T.d_Lat_door
  m_Lat_door : mg "_law_at_door" = some (.ref T.f_Lat_door)
  b_Lat_door : Binds K T.d_Lat_door ["_law_way", "_law_ladder", "_law_many", "_law_limits"] []
  F_Lright_refusals : Fun K "_law_right_refusals" "_law_right_refusals" s_Lright_refusals T.f_Lright_refusals T.d_Lright_refusals
  m_Lright_refusals : mg "_law_right_refusals" = some (.ref T.f_Lright_refusals)
  b_Lright_refusals : Binds K T.d_Lright_refusals ["_law_hand_here", "_law_ladder", "_law_limits"] []
  F_law : Fun K "law" "law" s_law T.f_law T.d_law
  m_law : mg "law" = some (.ref T.f_law)
  b_law : Binds K T.d_law ["_law_script"] []
  m_CallError : mg "CallError" = some (.ref T.C_CallError)
  e_CallError : Jv.ExcP K T.C_CallError
  m_BadLadder : mg "BadLadder" = some (.ref T.C_BadLadder)
  e_BadLadder : Jv.ExcP K T.C_BadLadder
  m_BadKinds : mg "BadKinds" = some (.ref T.C_BadKinds)
  e_BadKinds : Jv.ExcP K T.C_BadKinds
  m_BadEnds : mg "BadEnds" = some (.ref T.C_BadEnds)
  e_BadEnds : Jv.ExcP K T.C_BadEnds
  m_BadEnd : mg "BadEnd" = some (.ref T.C_BadEnd)
  e_BadEnd : Jv.ExcP K T.C_BadEnd
  m_BadWords : mg "BadWords" = some (.ref T.C_BadWords)
  e_BadWords : Jv.ExcP K T.C_BadWords
  z_ValueError : mg "ValueError" = none
  z_abs : mg "abs" = none
  z_all : mg "all" = none
  z_bool : mg "bool" = none
  z_enumerate : mg "enumerate" = none
  z_int : mg "int" = none
  z_isinstance : mg "isinstance" = none
  z_len : mg "len" = none
  z_list : mg "list" = none
  z_max : mg "max" = none
  z_min : mg "min" = none
  z_range : mg "range" = none
  z_sorted : mg "sorted" = none
  z_sum : mg "sum" = none
  z_tuple : mg "tuple" = none
  z_zip : mg "zip" = none
  c_LADDER_MOST : mg "LADDER_MOST" = some (.int (6) T.t_LADDER_MOST)
  c_TOLD_LADDER_MOST : mg "TOLD_LADDER_MOST" = some (.int (30) T.t_TOLD_LADDER_MOST)
  c_COUNT_LADDER_MOST : mg "COUNT_LADDER_MOST" = some (.int (200) T.t_COUNT_LADDER_MOST)
  c_BOTH_LADDER_MOST : mg "BOTH_LADDER_MOST" = some (.int (8) T.t_BOTH_LADDER_MOST)
  c_LEAST_BOTH_MOST : mg "LEAST_BOTH_MOST" = some (.int (8) T.t_LEAST_BOTH_MOST)
  u_BadEnds_BadLadder : PySem.W.subIn K (.ref T.C_BadEnds) (.ref T.C_BadLadder) = some false
  u_BadKinds_BadLadder : PySem.W.subIn K (.ref T.C_BadKinds) (.ref T.C_BadLadder) = some false
  u_BadKinds_BadEnds : PySem.W.subIn K (.ref T.C_BadKinds) (.ref T.C_BadEnds) = some false
  kb2_ends_both_split : KBn K T.d_both_split ["ladder", "q", "ends"] 2 ["ends"] (fun us ws => us ++ [ws.getD 0 .none]) (fun vs zs => vs ++ [zs.getD 0 .non])
  kb2_ends_most_both : KBn K T.d_most_both ["ladder", "q", "ends"] 2 ["ends"] (fun us ws => us ++ [ws.getD 0 .none]) (fun vs zs => vs ++ [zs.getD 0 .non])
  kb3_ends_serves_both : KBn K T.d_serves_both ["ladder", "p", "q", "ends"] 3 ["ends"] (fun us ws => us ++ [ws.getD 0 .none]) (fun vs zs => vs ++ [zs.getD 0 .non])
  kb1_ends_staircase : KBn K T.d_staircase ["ladder", "ends"] 1 ["ends"] (fun us ws => us ++ [ws.getD 0 .none]) (fun vs zs => vs ++ [zs.getD 0 .non])
  kb1_ends_words_end_told_split : KBn K T.d_told_split ["ladder", "ends", "words", "end"] 1 ["ends", "words", "end"] (fun us ws => us ++ [ws.getD 0 .none, ws.getD 1 .none, ws.getD 2 .none]) (fun vs zs => vs ++ [zs.getD 0 .non, zs.getD 1 .non, zs.getD 2 .non])
  kb1_ends_told_within : KBn K T.d_told_within ["ladder", "ends", "words", "end"] 1 ["ends"] (fun us ws => us ++ [ws.getD 0 .none, T.e3_told_within.getD 1 .none, T.e3_told_within.getD 2 .none]) (fun vs zs => vs ++ [zs.getD 0 .non, .non, (.int 0)])
end K39

namespace K39
open PySem PySem.Spec PyProof.Rows L2
/-! ### the law's draws: any number below the bound may come -/
def sp_Lmix : Sp := fun vs H Q _ => ∃ n t : Int, vs = [.int n, .int t] ∧ (0 ≤ n ∧ n < 2147483648 ∧ 0 ≤ t ∧ t ≤ 1000) ∧ ∀ r : Int, 0 ≤ r → r < 134217728 → Q (.int r) H
theorem mix_end (z : Int) : 0 ≤ z % 2147483399 / 16 ∧ z % 2147483399 / 16 < 134217728 := by omega
section
variable {P : Program} {w : World} {K : PySem.W.Frag} {mg : Str → Option Value} {base : Heap}
theorem ok_Lmix (T : Tx) (O : Ok K mg T) : FnOk P w K mg base CX0 1 T.f_Lmix T.d_Lmix ["_law_number", "_law_turn"] sp_Lmix := by
  refine O.F_Lmix.ok sc_Lmix (fun vs H Q E h => by obtain ⟨n, t, rfl, _⟩ := h; rfl) (fun cdv A outer s H vs Q E hr h => ?_)
  obtain ⟨n, t, rfl, ⟨h1, h2, h3, h4⟩, q⟩ := h
  refine ⟨_, (pss_cons (ps_set (i := 2) sc_Lmix.nd rfl (Or.inl rfl) (pe_op op_mod (pe_callTy (r := Jv.rInt) Jv.cr_int (by rfl) O.z_int (by decide +kernel) (pa_cons (pe_op op_add (pe_op op_add (pe_op op_mul (pv 0) pe_int) (pe_op op_mul (pv 1) pe_int)) pe_int) pa_nil)) pe_int))
  (pss_cons (ps_set (i := 3) sc_Lmix.nd rfl (Or.inl rfl) (pe_op op_mod (pe_callTy (r := Jv.rInt) Jv.cr_int (by rfl) O.z_int (by decide +kernel) (pa_cons (pe_op op_add (pe_op op_add (pe_op op_mul (pv 2) pe_int) (pe_op op_mul (pv 1) pe_int)) (pe_op op_fdivW (pv 2) pe_int)) pa_nil)) pe_int))
  (pss_one (ps_ret (pe_op op_fdivW (pe_op op_mod (pe_callTy (r := Jv.rInt) Jv.cr_int (by rfl) O.z_int (by decide +kernel) (pa_cons (pe_op op_add (pe_op op_add (pe_op op_mul (pv 2) (pv 3)) (pe_op op_fdivW (pv 3) pe_int)) (pv 1)) pa_nil)) pe_int) pe_int))))), ?_⟩
  walk_at "r"
  exact q _ (mix_end _).1 (mix_end _).2
end
end K39

namespace Jv
open PySem PySem.Spec PyProof.Rows L2
/-! ### the hand: numbers still to be used, a place, a rest, a total -/
structure HandAt (H : Hp) (p l : Addr) (ns : List Int) (k c t : Int) : Prop where
  hp : H p = some (.lst [.ref l, .int k, .int c, .int t])
  hl : H l = some (.lst (ns.map V.int))
  nn : ∀ n ∈ ns, 0 ≤ n
  few : ns.length ≤ 63
  bd : 0 ≤ k ∧ k ≤ ns.length ∧ 0 ≤ c ∧ 0 ≤ t ∧ t < 2147483629
def Hand (H : Hp) (p l : Addr) : Prop := ∃ ns k c t, HandAt H p l ns k c t
theorem HandAt.ne {H : Hp} {p l : Addr} {ns : List Int} {k c t : Int} (h : HandAt H p l ns k c t) : l ≠ p := fun e => by
  have q := h.hp
  rw [← e, h.hl] at q
  have q2 := HO.lst.inj (Option.some.inj q)
  cases ns with
  | nil => cases q2
  | cons a r => cases q2
/-- all but what stands at p is as it was -/
def Kp (p : Addr) (H H' : Hp) : Prop := ∀ b o, b ≠ p → H b = some o → H' b = some o
theorem Kp.refl {p : Addr} {H : Hp} : Kp p H H := fun _ _ _ e => e
theorem Kp.trans {p : Addr} {H H1 H2 : Hp} (a : Kp p H H1) (b : Kp p H1 H2) : Kp p H H2 := fun c o n e => b c o n (a c o n e)
theorem Kp.same {p : Addr} {H H' : Hp} (a : Same H H') : Kp p H H' := fun c o _ e => a c o e
theorem Kp.upd {p : Addr} {H : Hp} {o : HO} : Kp p H (upd H p o) := fun c u n e => by rw [upd_ne n]; exact e
theorem Kp.new {p q : Addr} {H : Hp} {o : HO} (n : H q = none) : Kp p H (L2.upd H q o) := Kp.same (same_new n)
theorem Hand.same {H H' : Hp} {p l : Addr} (h : Hand H p l) (s : Same H H') : Hand H' p l := by
  obtain ⟨ns, k, c, t, h⟩ := h
  exact ⟨ns, k, c, t, s _ _ h.hp, s _ _ h.hl, h.nn, h.few, h.bd⟩
theorem Hand.at {H : Hp} {p l : Addr} (h : Hand H p l) : ∃ o, H p = some o := by
  obtain ⟨ns, k, c, t, h⟩ := h
  exact ⟨_, h.hp⟩
theorem Hand.set {H : Hp} {p l : Addr} {ns : List Int} {k c t k' c' t' : Int} (h : HandAt H p l ns k c t) (b : 0 ≤ k' ∧ k' ≤ ns.length ∧ 0 ≤ c' ∧ 0 ≤ t' ∧ t' < 2147483629) :
    HandAt (upd H p (.lst [.ref l, .int k', .int c', .int t'])) p l ns k' c' t' :=
  ⟨upd_same, by rw [upd_ne h.ne]; exact h.hl, h.nn, h.few, b⟩
end Jv
namespace K39
open PySem PySem.Spec PyProof.Rows L2
def sp_Lhand (K : PySem.W.Frag) : Sp := fun vs H Q _ => ∃ (a : Addr) (ns : List Int), vs = [.ref a] ∧ SqL K H a (ns.map V.int) ∧ ns.length ≤ 63 ∧ ∀ p l H', Same H H' → H p = none → Jv.Hand H' p l → Q (.ref p) H'
section
variable {P : Program} {w : World} {K : PySem.W.Frag} {mg : Str → Option Value} {base : Heap}
theorem ok_Lhand (T : Tx) (O : Ok K mg T) : FnOk P w K mg base CX0 1 T.f_Lhand T.d_Lhand ["_law_script"] (sp_Lhand K) := by
  refine O.F_Lhand.ok sc_Lhand (fun vs H Q E h => by obtain ⟨a, ns, rfl, _⟩ := h; rfl) (fun cdv A outer s H vs Q E hr h => ?_)
  obtain ⟨a, ns, rfl, hS, few, q⟩ := h
  refine ⟨_, (pss_cons (ps_set (i := 1) sc_Lhand.nd rfl (Or.inl rfl) pe_int)
  (pss_cons (ps_for PassesOwn.never rfl (show PI _ _ _ (iEnum K _) from pi_enum (by rfl) O.z_enumerate (pa_cons (pv 0) pa_nil)) (pg_tup rfl (pgs_cons (pg_name (i := 2) sc_Lhand.nd rfl (Or.inl rfl)) (pgs_cons (pg_name (i := 3) sc_Lhand.nd rfl (Or.inl rfl)) pgs_nil))) (pss_one (ps_set (i := 1) sc_Lhand.nd rfl (Or.inl rfl) (pe_op op_mod (pe_callTy (r := Jv.rInt) Jv.cr_int (by rfl) O.z_int (by decide +kernel) (pa_cons (pe_op op_add (pe_op op_mul (pv 1) pe_int) (pe_op op_mul (pe_callTy (r := Jv.rInt) Jv.cr_int (by rfl) O.z_int (by decide +kernel) (pa_cons (pv 3) pa_nil)) (pe_op op_add (pv 2) pe_int))) pa_nil)) pe_int))))
  (pss_one (ps_ret (pe_lst (pa_cons (pe_lc (own := [("_law_cell", 3)]) (by rfl) sc_Lhand.nd (show PI _ _ _ (iList K _) from pi_list (pv 0)) (blkOk_by (own := [("_law_cell", 3)]) (N := ["_law_script", "_law_total", "_law_k", "_law_cell"]) (sc := defScope s_Lhand) (scope := ({ kind := .function, names := [(".0", .local), ("_law_cell", .local), ("abs", .globalImplicit), ("int", .globalImplicit)], isGenerator := false, isCoroutine := false } : Scope)) (by decide +kernel)) (fun _ _ _ _ _ => (pg_name (i := 3) sc_Lhand.nd rfl (Or.inl rfl))) (fun _ _ _ _ _ => pts_nil) (fun _ _ _ _ _ => (pe_callB (r := Jv.rAbs) Jv.cr_abs (by rfl) O.z_abs (by decide +kernel) (pa_cons (pe_callTy (r := Jv.rInt) Jv.cr_int (by rfl) O.z_int (by decide +kernel) (pa_cons (pv 3) pa_nil)) pa_nil)))) (pa_cons pe_int (pa_cons pe_int (pa_cons (pv 1) pa_nil))))))))), ?_⟩
  walk_at "r"
  refine ⟨_, _, rfl, hS, ?_⟩
  refine for_it (walk_enum (K := K) (a := a) (xs := ns.map V.int)) (fun i σ H' => ∃ y2 y3 tot, σ = [some (.ref a), some (.int tot), y2, y3] ∧ (0 ≤ tot ∧ tot < 2147483629) ∧ Same H H') ⟨_, _, 0, rfl, by decide, fun _ _ e => e⟩ (fun i σ H' _ ⟨_, _, _, _, _, sm⟩ => sm.seq hS) ?_ ?_
  · rintro i x σ H1 H2 hi ⟨y2, y3, tot, rfl, hb, sm⟩ ⟨p, x1, x2, rfl, hp, rfl, hx, hy⟩
    cases hx
    obtain ⟨z, hz, rfl⟩ := Jv.map_at (show (ns.map V.int)[i]? = some x2 from hy)
    rw [List.length_map] at hi
    walk_at "r"
    exact ⟨_, _, _, rfl, by omega, sm.trans (Jv.same_new hp)⟩
  · rintro σ H' ⟨y2, y3, tot, rfl, hb, sm⟩
    walk_at "r"
    refine ⟨_, rfl, _, rfl, ⟨_, sm.seq hS⟩, fun p hp => ?_⟩
    refine lc_it (walk_list (K := K) (a := a) (xs := ns.map V.int)) (fun i H1 => ∃ zs : List Int, Same H H1 ∧ H1 p = some (.lst (zs.map V.int)) ∧ zs.length = i ∧ ∀ z ∈ zs, 0 ≤ z) ⟨[], sm.trans (Jv.same_new hp), upd_same, rfl, by simp⟩ (fun i H1 _ ⟨_, s1, _⟩ => s1.seq hS) ?_ ?_
    · rintro i x H1 H2 hi ⟨zs, s1, e1, hl, nn⟩ ⟨rfl, hx⟩
      obtain ⟨z, hz, rfl⟩ := Jv.map_at hx
      rw [List.length_map] at hi
      walk_at "r"
      refine ⟨zs.map V.int, e1, ?_, zs ++ [if z < 0 then -z else z], ?_, ?_, ?_, ?_⟩
      · rw [List.length_map, hl]; exact Jv.small_lt (by omega)
      · intro b o e; exact Jv.kpO (s1 b o e) (ne_of_none (sm b o e) hp)
      · rw [upd_same, List.map_append]; rfl
      · rw [List.length_append, hl]; rfl
      · intro y hy
        rcases List.mem_append.mp hy with hy | hy
        · exact nn y hy
        · rw [List.mem_singleton.mp hy]; split <;> omega
    · rintro H1 ⟨zs, s1, e1, hl, nn⟩
      walk_at "r"
      intro p2 hp2
      rw [List.length_map] at hl
      exact q p2 p _ (s1.trans (Jv.same_new hp2)) (s1.free hp2) ⟨zs, 0, 0, tot, upd_same, Jv.kp e1 hp2, nn, by omega, by omega⟩
end
end K39

namespace K39
open PySem PySem.Spec PyProof.Rows L2
def sp_Ldraw : Sp := fun vs H Q _ => ∃ (p l : Addr) (m : Int), vs = [.ref p, .int m] ∧ Jv.Hand H p l ∧ (0 < m ∧ m.natAbs.log2 < 9000) ∧ ∀ r H', 0 ≤ r → r < m → Jv.Kp p H H' → Jv.Hand H' p l → Q (.int r) H'
section
variable {P : Program} {w : World} {K : PySem.W.Frag} {mg : Str → Option Value} {base : Heap}
theorem ok_Ldraw (T : Tx) (O : Ok K mg T) : FnOk P w K mg base CX0 2 T.f_Ldraw T.d_Ldraw ["_law_hand_here", "_law_many"] sp_Ldraw := by
  refine O.F_Ldraw.ok sc_Ldraw (fun vs H Q E h => by obtain ⟨_, _, _, rfl, _⟩ := h; rfl) (fun cdv A outer s H vs Q E hr h => ?_)
  obtain ⟨p, l, m, rfl, ⟨ns, k, c, t, hA⟩, ⟨m0, m1⟩, q⟩ := h
  obtain ⟨hp, hl, nn, few, b1, b2, b3, b4, b5⟩ := id hA
  have nlp := hA.ne
  have e0 : ∀ z : Int, 0 ≤ z % m := fun z => Int.emod_nonneg _ (by omega)
  have e1 : ∀ z : Int, z % m < m := fun z => Int.emod_lt_of_pos _ m0
  refine ⟨_, (C8.pss_cut (ps_if (PW.pt (pw_and (pt_cmpR op_eq (pe_ix (r := rIxL K) ix_list (pv 0) pe_int (fun _ _ => rfl)) pe_int (nomark _)) (pw_and1 (pt_cmpR op_lt (pe_ix (r := rIxL K) ix_list (pv 0) pe_int (fun _ _ => rfl)) (pe_callB (r := Jv.rLenK K) Jv.cr_len (by rfl) O.z_len (by decide +kernel) (pa_cons (pe_ix (r := rIxL K) ix_list (pv 0) pe_int (fun _ _ => rfl)) pa_nil)) (nomark _))))) (pss_cons (ps_set (i := 2) sc_Ldraw.nd rfl (Or.inl rfl) (pe_ix (r := rIxL K) ix_list (pe_ix (r := rIxL K) ix_list (pv 0) pe_int (fun _ _ => rfl)) (pe_ix (r := rIxL K) ix_list (pv 0) pe_int (fun _ _ => rfl)) (fun _ _ => rfl)))
  (pss_cons (ps_asg (pe_op op_add (pe_ix (r := rIxL K) ix_list (pv 0) pe_int (fun _ _ => rfl)) pe_int) (pg_sub (pv 0) pe_int set_list))
  (pss_cons (ps_if (pt_cmpR op_lt (pv 2) (pe_op op_pow pe_int pe_int) (nomark _)) (pss_one (ps_ret (pe_op op_mod (pe_callTy (r := Jv.rInt) Jv.cr_int (by rfl) O.z_int (by decide +kernel) (pa_cons (pe_call (ok_Lmix T O) (hr.mono (by decide)) (by rfl) O.m_Lmix O.F_Lmix.kp O.b_Lmix .nil pass0 (pa_cons (pe_op op_mod (pe_callTy (r := Jv.rInt) Jv.cr_int (by rfl) O.z_int (by decide +kernel) (pa_cons (pv 2) pa_nil)) pe_int) (pa_cons (pe_ix (r := rIxL K) ix_list (pv 0) pe_int (fun _ _ => rfl)) pa_nil))) pa_nil)) (pv 1)))) pss_nil)
  (pss_one (ps_asg (pv 2) (pg_sub (pv 0) pe_int set_list)))))) pss_nil)
  (pss_cons (ps_if (pt_cmpR op_gt (pe_ix (r := rIxL K) ix_list (pv 0) pe_int (fun _ _ => rfl)) pe_int (nomark _)) (pss_cons (ps_set (i := 3) sc_Ldraw.nd rfl (Or.inl rfl) (pe_ix (r := rIxL K) ix_list (pv 0) pe_int (fun _ _ => rfl)))
  (pss_cons (ps_asg (pe_op op_fdivW (pv 3) (pv 1)) (pg_sub (pv 0) pe_int set_list))
  (pss_one (ps_ret (pe_op op_mod (pe_callTy (r := Jv.rInt) Jv.cr_int (by rfl) O.z_int (by decide +kernel) (pa_cons (pv 3) pa_nil)) (pv 1)))))) pss_nil)
  (pss_cons (ps_asg (pe_op op_mod (pe_callTy (r := Jv.rInt) Jv.cr_int (by rfl) O.z_int (by decide +kernel) (pa_cons (pe_op op_add (pe_ix (r := rIxL K) ix_list (pv 0) pe_int (fun _ _ => rfl)) pe_int) pa_nil)) pe_int) (pg_sub (pv 0) pe_int set_list))
  (pss_one (ps_ret (pe_op op_mod (pe_callTy (r := Jv.rInt) Jv.cr_int (by rfl) O.z_int (by decide +kernel) (pa_cons (pe_call (ok_Lmix T O) (hr.mono (by decide)) (by rfl) O.m_Lmix O.F_Lmix.kp O.b_Lmix .nil pass0 (pa_cons (pe_ix (r := rIxL K) ix_list (pv 0) pe_int (fun _ _ => rfl)) (pa_cons (pe_ix (r := rIxL K) ix_list (pv 0) pe_int (fun _ _ => rfl)) pa_nil))) pa_nil)) (pv 1))))))), ?_⟩
  refine ⟨fun σ' H' => ∃ k c t y2 y3, σ' = [some (.ref p), some (.int m), y2, y3] ∧ Jv.HandAt H' p l ns k c t ∧ Jv.Kp p H H', ?_, ?_⟩
  · walk_at "r"
    refine Jv.r_decI (fun hc => ?_) (fun hc => ?_)
    · walk_at "r"
      refine Jv.r_dec (fun hk => ?_) (fun hk => ?_)
      · rw [List.length_map] at hk
        have hk2 : k.toNat < ns.length := by omega
        have at1 : atI (ns.map V.int) k = some (.int ns[k.toNat]) := Jv.at_i b1 (Jv.map_get hk2)
        have n0 := nn ns[k.toNat] (List.getElem_mem _)
        generalize ns[k.toNat] = z at at1 n0
        walk_at "r"
        refine' Jv.r_ixL ?hs at1 ?_
        case hs => walk_at "sq"
        walk_at "r"
        refine Jv.r_dec (fun hz => ?_) (fun hz => ?_)
        · walk_at "r"
          refine ⟨_, _, rfl, ⟨by omega, by omega, by omega, by omega⟩, fun r h1 h2 => ?_⟩
          walk_at "r"
          exact q _ _ (e0 _) (e1 _) Jv.Kp.upd ⟨_, _, _, _, Jv.Hand.set hA ⟨by omega, by omega, b3, b4, b5⟩⟩
        · walk_at "r"
          exact ⟨k + 1, z, t, _, _, rfl, Jv.Hand.set (Jv.Hand.set hA ⟨by omega, by omega, b3, b4, b5⟩) ⟨by omega, by omega, n0, b4, b5⟩, Jv.Kp.upd.trans Jv.Kp.upd⟩
      · walk_at "r"
        exact ⟨k, c, t, _, _, rfl, hA, Jv.Kp.refl⟩
    · walk_at "r"
      exact ⟨k, c, t, _, _, rfl, hA, Jv.Kp.refl⟩
  · rintro σ' H' ⟨k, c, t, y2, y3, rfl, hB, kp⟩
    obtain ⟨hp, hl, nn, few, b1, b2, b3, b4, b5⟩ := id hB
    walk_at "r"
    refine Jv.r_dec (fun hc => ?_) (fun hc => ?_)
    · walk_at "r"
      refine q _ _ (e0 _) (e1 _) (kp.trans Jv.Kp.upd) ⟨_, _, _, _, Jv.Hand.set hB ⟨b1, b2, Int.ediv_nonneg b3 (by omega), b4, b5⟩⟩
    · walk_at "r"
      refine ⟨_, _, rfl, ⟨by omega, by omega, b1, by omega⟩, fun r h1 h2 => ?_⟩
      walk_at "r"
      exact q _ _ (e0 _) (e1 _) (kp.trans Jv.Kp.upd) ⟨_, _, _, _, Jv.Hand.set hB ⟨b1, b2, b3, by omega, by omega⟩⟩
end
end K39

namespace Jv
open PySem PySem.Spec PyProof.Rows L2
/-! ### what is made later -/
/-- H' without the lists that H has -/
def newer (H H' : Hp) : Hp := fun b => match H b with
  | some (.lst _) => none
  | _ => H' b
theorem DvAll.app {K : PySem.W.Frag} {H : Hp} : ∀ {vs ws : List V} {ds es : List PyData}, DvAll K H vs ds → DvAll K H ws es → DvAll K H (vs ++ ws) (ds ++ es)
  | _, _, _, _, .nil, q => q
  | _, _, _, _, .cons a b, q => .cons a (DvAll.app b q)
section
variable {K : PySem.W.Frag} {H H' H1 : Hp} {b : Addr} {o : HO} {N : List Addr}
theorem newer_le : Same (newer H H') H' := fun b o e => by
  unfold newer at e
  split at e
  · cases e
  · exact e
theorem newer_at (n : ∀ ys, H b ≠ some (.lst ys)) (e : H' b = some o) : newer H H' b = some o := by
  unfold newer
  split
  · rename_i ys h; exact (n ys h).elim
  · exact e
theorem newer_new (n : H b = none) (e : H' b = some o) : newer H H' b = some o := newer_at (fun ys h => by rw [n] at h; cases h) e
theorem newer_not (e : newer H H' b = some o) : (∀ ys, H b ≠ some (.lst ys)) ∧ H' b = some o := by
  refine ⟨fun ys h => ?_, newer_le b o e⟩
  unfold newer at e
  rw [h] at e; cases e
theorem newer_hide (hN : ∀ b ∈ N, ∃ ys, H b = some (.lst ys)) : Same (newer H H') (hide N H') := fun b o e => by
  obtain ⟨h1, h2⟩ := newer_not e
  exact hide_at (fun m => by obtain ⟨ys, h⟩ := hN b m; exact h1 ys h) h2
theorem newer_same (s : Same H' H1) : Same (newer H H') (newer H H1) := fun b o e => by
  obtain ⟨h1, h2⟩ := newer_not e
  exact newer_at h1 (s _ _ h2)
theorem newer_sub (hs : ∀ b ys, H b = some (.lst ys) → ∃ zs, H1 b = some (.lst zs)) : Same (newer H1 H') (newer H H') := fun b o e => by
  obtain ⟨h1, h2⟩ := newer_not e
  exact newer_at (fun ys h => by obtain ⟨zs, hz⟩ := hs b ys h; exact h1 zs hz) h2
end
end Jv
namespace Jv
open PySem PySem.Spec PyProof.Rows L2
/-! ### the hand beside data -/
section
variable {K : PySem.W.Frag} {H H' H1 : Hp} {p l b : Addr} {o : HO}
theorem Hand.ne2 (h : Hand H p l) (n : H b = none) : b ≠ p ∧ b ≠ l := by
  obtain ⟨ns, k, c, t, hA⟩ := h
  exact ⟨fun e => (by rw [e, hA.hp] at n; cases n), fun e => (by rw [e, hA.hl] at n; cases n)⟩
theorem Hand.upd (h : Hand H p l) (n1 : b ≠ p) (n2 : b ≠ l) : Hand (L2.upd H b o) p l := by
  obtain ⟨ns, k, c, t, hA⟩ := h
  exact ⟨ns, k, c, t, by rw [upd_ne n1.symm]; exact hA.hp, by rw [upd_ne n2.symm]; exact hA.hl, hA.nn, hA.few, hA.bd⟩
theorem Kp.free (k : Kp p H H') (h : Hand H' p l) (n : H' b = none) : H b = none := by
  cases e : H b with
  | none => rfl
  | some o =>
    obtain ⟨u, hu⟩ := h.at
    by_cases nb : b = p
    · rw [nb, hu] at n; cases n
    · rw [k b o nb e] at n; cases n
theorem Kp.hide (k : Kp p H H') : Same (Jv.hide [p] H) (Jv.hide [p] H') := fun b o e => by
  obtain ⟨n, e2⟩ := hide_some e
  exact hide_at n (k b o (fun h => n (by rw [h]; exact List.mem_singleton.mpr rfl)) e2)
theorem hide_one {p b : Addr} {o : HO} (n : b ≠ p) (h : H b = some o) : Jv.hide [p] H b = some o := hide_at (fun m => n (List.mem_singleton.mp m)) h
theorem Kp.hideM {N : List Addr} (k : Kp p H H') (m : p ∈ N) : Same (Jv.hide N H) (Jv.hide N H') := fun b o e => by
  obtain ⟨n, e2⟩ := hide_some e
  exact hide_at n (k b o (fun h => n (by rw [h]; exact m)) e2)
theorem Hand.lst (h : Hand H p l) : ∀ b ∈ [p], ∃ ys, H b = some (.lst ys) := fun b m => by
  rw [List.mem_singleton.mp m]
  obtain ⟨_, _, _, _, hA⟩ := h
  exact ⟨_, hA.hp⟩
theorem Hand.neTup {xs : List V} (h : Hand H p l) (e : H b = some (.tup xs)) : b ≠ p := fun z => by
  obtain ⟨_, _, _, _, hA⟩ := h
  rw [z, hA.hp] at e; cases e
theorem eqv_self {d : PyData} (h : SeqAt.shaped d = true) : PyData.eqv d d = true := SeqAt.eqv_refl d (SeqAt.canLay_of_shaped h)
theorem ne_self {Q : VK} {x y : V} {d : PyData} (hx : Jv.Dv K H x d) (hy : Jv.Dv K H y d) (h : SeqAt.shaped d = true) (q : Q (.bl false) H) : rNeD K x y H Q :=
  ⟨d, d, hx.dp, hy.dp, h, h, by rw [eqv_self h]; exact q⟩
theorem eq_self {Q : VK} {x y : V} {d : PyData} (hx : Jv.Dv K H x d) (hy : Jv.Dv K H y d) (h : SeqAt.shaped d = true) (q : Q (.bl true) H) : rEqD K x y H Q :=
  ⟨d, d, hx.dp, hy.dp, h, h, by rw [eqv_self h]; exact q⟩
theorem r_make0 {C : Addr} {sp : Sp} {dvs : List V} {E : XK} {t : TA} {σ : L2.St} {Q : VK} (h : t σ H fun vs H1 => ∀ x dx, H1 x = none → H1 dx = none → dx ≠ x →
  sp (.ref x :: (vs ++ dvs)) (L2.upd (L2.upd H1 dx (.own x)) x (.ins C dx [])) (fun v H2 => v = .non ∧ Q (.ref x) H2) E) : tMake C sp dvs E t σ H Q := h
theorem gen_make {C : Addr} {sp : Sp} {dvs : List V} {E : XK} {t : TA} {σ : L2.St} {Q : VK} (h : ∀ Q' : VK, (∀ v H, Q v H → Q' v H) → tMake C sp dvs E t σ H Q') : tMake C sp dvs E t σ H Q := h Q fun _ _ q => q
theorem r_methC {m : Str} {C : Addr} {sp : Sp} {dvs : List V} {E : L2.St → XK} {ta : TE} {t : TA} {σ : L2.St} {Q : VK} (h : ta σ H fun x H1 => ∃ a dx fs, x = .ref a ∧ H1 a = some (.ins C dx fs) ∧ fs.lookup m = none ∧ t σ H1 fun vs H2 => sp (x :: (vs ++ dvs)) H2 Q (E σ)) : Jv.tMethX C m sp dvs E ta t σ H Q := h
theorem r_makeC {C : Addr} {sp : Sp} {dvs : List V} {E : L2.St → XK} {t : TA} {σ : L2.St} {Q : VK} (h : t σ H fun vs H1 => ∀ x dx, H1 x = none → H1 dx = none → dx ≠ x →
  sp (.ref x :: (vs ++ dvs)) (L2.upd (L2.upd H1 dx (.own x)) x (.ins C dx [])) (fun v H2 => v = .non ∧ Q (.ref x) H2) (E σ)) : Jv.tMakeX C sp dvs E t σ H Q := h
/-- one of a list's elements -/
theorem pickH {H2 : Hp} {Q : VK} {t : Addr} {xs : List V} {ds : List PyData} {z : Int} (e : H t = some (.lst xs)) (al : Jv.DvAll K H2 xs ds) (z0 : 0 ≤ z) (z1 : z < xs.length) (k : ∀ v d, d ∈ ds → Jv.Dv K H2 v d → Q v H) : rIxL K (.ref t) (.int z) H Q := by
  have hz : z.toNat < xs.length := by omega
  obtain ⟨d, hd, dv⟩ := al.at (List.getElem?_eq_getElem hz)
  exact Jv.r_ixL (Jv.sqL_at e) (Jv.at_i z0 (List.getElem?_eq_getElem hz)) (k _ d (List.mem_of_getElem? hd) dv)
theorem shaped_word : SeqAt.shaped (.list [.str "bad"]) = true := by decide +kernel
end
end Jv
namespace K39
open PySem PySem.Spec PyProof.Rows L2
/-! ### the law's own things -/
def sp_Lwhole (K : PySem.W.Frag) : Sp := fun vs H Q _ => ∃ x d, vs = [x] ∧ Jv.Dv K H x d ∧ Q (.bl (Jv.intD d)) H
theorem inV_ints {z : Int} : ∀ {ns : List Int}, inV (.int z) (ns.map V.int) = decide (z ∈ ns)
  | [] => by simp [inV]
  | a :: r => by
    have ih := inV_ints (z := z) (ns := r)
    unfold inV at ih ⊢
    rw [List.map_cons, List.any_cons, ih]
    by_cases h : a = z
    · subst h; simp [eqV]
    · have h2 : ¬ z = a := fun e => h e.symm
      simp [eqV, h, h2]
theorem flat_ints (ns : List Int) : (ns.map V.int).all flatV = true := by
  rw [List.all_map, List.all_eq_true]; intro n _; rfl
section
variable {P : Program} {w : World} {K : PySem.W.Frag} {mg : Str → Option Value} {base : Heap}
end
end K39

namespace K39
def own (b : Bool) : Int := if b = true then 1 else 0
theorem own_01 (b : Bool) : 0 ≤ own b ∧ own b ≤ 1 := by cases b <;> decide
def lv (f : List Bool → Int) : List Bool → List Int
  | [] => []
  | b :: bs => f (b :: bs) :: lv f bs
def mx (d : Int) : List Int → Int
  | [] => d
  | x :: xs => if mx d xs < x then x else mx d xs
theorem mx_le {d : Int} : ∀ {xs : List Int}, (∀ y ∈ xs, y ≤ mx d xs) ∧ d ≤ mx d xs
  | [] => ⟨fun _ h => (by cases h), Int.le_refl _⟩
  | x :: xs => by
    obtain ⟨h1, h2⟩ := mx_le (d := d) (xs := xs)
    simp only [mx]
    split
    · refine ⟨fun y hy => ?_, by omega⟩
      rcases List.mem_cons.mp hy with rfl | hy
      · omega
      · have := h1 y hy; omega
    · refine ⟨fun y hy => ?_, h2⟩
      rcases List.mem_cons.mp hy with rfl | hy
      · omega
      · exact h1 y hy
theorem mx_mem {d : Int} : ∀ {xs : List Int}, mx d xs = d ∨ mx d xs ∈ xs
  | [] => .inl rfl
  | x :: xs => by
    simp only [mx]
    split
    · exact .inr List.mem_cons_self
    · rcases mx_mem (d := d) (xs := xs) with h | h
      · exact .inl h
      · exact .inr (List.mem_cons_of_mem _ h)
theorem mx_is {d m : Int} {xs : List Int} (h1 : m ∈ d :: xs) (h2 : ∀ y ∈ d :: xs, y ≤ m) : m = mx d xs := by
  obtain ⟨a, b⟩ := mx_le (d := d) (xs := xs)
  have c : mx d xs ≤ m := by
    rcases mx_mem (d := d) (xs := xs) with h | h
    · rw [h]; exact h2 _ List.mem_cons_self
    · exact h2 _ (List.mem_cons_of_mem _ h)
  rcases List.mem_cons.mp h1 with e | e
  · omega
  · have := a _ e; omega
theorem mx_up {d : Int} (h : 0 ≤ d) {xs : List Int} : (mx 0 xs > d → mx d xs = mx 0 xs) ∧ (¬ mx 0 xs > d → mx d xs = d) := by
  obtain ⟨a, b⟩ := mx_le (d := 0) (xs := xs)
  refine ⟨fun g => (mx_is ?_ fun y hy => ?_).symm, fun g => (mx_is List.mem_cons_self fun y hy => ?_).symm⟩
  · rcases mx_mem (d := 0) (xs := xs) with e | e
    · omega
    · exact List.mem_cons_of_mem _ e
  · rcases List.mem_cons.mp hy with e | e
    · omega
    · exact a _ e
  · rcases List.mem_cons.mp hy with e | e
    · omega
    · have := a _ e; omega
def TS : Nat → (List Bool → Int) × (List Bool → Int)
  | 0 => (fun _ => 0, fun _ => 0)
  | m + 1 => (fun | [] => 0 | b :: bs => own b + (lv (TS m).2 bs).sum, fun | [] => 0 | b :: bs => mx (own b) (lv (TS m).1 bs))
def tT (m : Nat) : List Bool → Int := (TS m).1
def tS (m : Nat) : List Bool → Int := (TS m).2
theorem T_cons {m : Nat} {b : Bool} {bs : List Bool} : tT (m + 1) (b :: bs) = own b + (lv (tS m) bs).sum := rfl
theorem S_cons {m : Nat} {b : Bool} {bs : List Bool} : tS (m + 1) (b :: bs) = mx (own b) (lv (tT m) bs) := rfl
theorem sum_nn : ∀ {xs : List Int}, (∀ x ∈ xs, 0 ≤ x) → 0 ≤ xs.sum
  | [], _ => by simp
  | x :: xs, h => by
    have h1 := h x List.mem_cons_self
    have h2 := sum_nn fun y hy => h y (List.mem_cons_of_mem _ hy)
    rw [List.sum_cons]; omega
theorem lv_mem {f : List Bool → Int} (h : ∀ B, 0 ≤ f B) : ∀ {bs : List Bool} {x : Int}, x ∈ lv f bs → 0 ≤ x
  | [], _, e => by cases e
  | b :: bs, x, e => by
    rcases List.mem_cons.mp e with rfl | e
    · exact h _
    · exact lv_mem h e
theorem TS_nn : ∀ (m : Nat), (∀ B, 0 ≤ tT m B) ∧ ∀ B, 0 ≤ tS m B
  | 0 => ⟨fun _ => Int.le_refl _, fun _ => Int.le_refl _⟩
  | m + 1 => by
    obtain ⟨h1, h2⟩ := TS_nn m
    refine ⟨fun B => ?_, fun B => ?_⟩
    · cases B with
      | nil => exact Int.le_refl _
      | cons b bs =>
        rw [T_cons]
        have := sum_nn (xs := lv (tS m) bs) fun x => lv_mem h2
        have := own_01 b
        omega
    · cases B with
      | nil => exact Int.le_refl _
      | cons b bs =>
        rw [S_cons]
        have := (mx_le (d := own b) (xs := lv (tT m) bs)).2
        have := own_01 b
        omega
theorem lv_len {f : List Bool → Int} : ∀ {bs : List Bool}, (lv f bs).length = bs.length
  | [] => rfl
  | b :: bs => by simp [lv, lv_len (bs := bs)]
theorem lv_drop {f : List Bool → Int} : ∀ {bs : List Bool} {k : Nat}, (lv f bs).drop k = lv f (bs.drop k)
  | [], k => by simp [lv]
  | b :: bs, 0 => rfl
  | b :: bs, k + 1 => lv_drop (bs := bs) (k := k)
theorem lv_at {f : List Bool → Int} : ∀ {bs : List Bool} {k : Nat}, k < bs.length → (lv f bs)[k]? = some (f (bs.drop k))
  | [], k, h => by simp at h
  | b :: bs, 0, _ => rfl
  | b :: bs, k + 1, h => lv_at (bs := bs) (k := k) (by simp at h; omega)
def TSf : List Bool → List Int × List Int
  | [] => ([], [])
  | b :: bs => ((own b + (TSf bs).2.sum) :: (TSf bs).1, mx (own b) (TSf bs).1 :: (TSf bs).2)
theorem TSf_len : ∀ {bs : List Bool}, (TSf bs).1.length = bs.length ∧ (TSf bs).2.length = bs.length
  | [] => ⟨rfl, rfl⟩
  | b :: bs => by
    obtain ⟨h1, h2⟩ := TSf_len (bs := bs)
    simp [TSf, h1, h2]
theorem stab : ∀ {bs : List Bool} {m : Nat}, bs.length ≤ m → lv (tT m) bs = (TSf bs).1 ∧ lv (tS m) bs = (TSf bs).2
  | [], m, _ => ⟨rfl, rfl⟩
  | b :: bs, m, h => by
    rw [List.length_cons] at h
    obtain ⟨m, rfl⟩ : ∃ k, m = k + 1 := ⟨m - 1, by omega⟩
    obtain ⟨h1, h2⟩ := stab (bs := bs) (m := m) (by omega)
    obtain ⟨h3, h4⟩ := stab (bs := bs) (m := m + 1) (by omega)
    refine ⟨?_, ?_⟩
    · show tT (m + 1) (b :: bs) :: lv (tT (m + 1)) bs = _
      rw [T_cons, h2, h3]; rfl
    · show tS (m + 1) (b :: bs) :: lv (tS (m + 1)) bs = _
      rw [S_cons, h1, h4]; rfl
theorem TSf_drop : ∀ {bs : List Bool} {k : Nat}, (TSf bs).2.drop k = (TSf (bs.drop k)).2
  | [], k => by simp [TSf]
  | b :: bs, 0 => rfl
  | b :: bs, k + 1 => TSf_drop (bs := bs) (k := k)
/-- what the law and the program count: the level -/
def due (A : List Bool) (n st : Nat) : List Int := own (A.getD st false) :: lv (tS n) (A.drop (st + 1))
theorem due_len {A : List Bool} {n st : Nat} : (due A n st).length = A.length - st - 1 + 1 := by
  unfold due; rw [List.length_cons, lv_len, List.length_drop]; omega
theorem due_eq {A : List Bool} {m n st : Nat} (h : m = n ∨ (A.length ≤ m + 1 ∧ A.length ≤ n + 1)) : due A m st = due A n st := by
  unfold due
  rcases h with rfl | ⟨h1, h2⟩
  · rfl
  · rw [(stab (bs := A.drop (st + 1)) (m := m) (by rw [List.length_drop]; omega)).2, (stab (bs := A.drop (st + 1)) (m := n) (by rw [List.length_drop]; omega)).2]
/-- the level of a bound on words -/
def lvl (L : Nat) : Option Nat → Nat
  | none => L
  | some w => (if L + 1 < w then L + 1 else w) - 1
theorem due_T {A : List Bool} {n st : Nat} (h : st < A.length) : (due A n st).sum = tT (n + 1) (A.drop st) := by
  unfold due
  rw [List.sum_cons, List.drop_eq_getElem_cons h, T_cons]
  rw [List.getD_eq_getElem?_getD, List.getElem?_eq_getElem h]; rfl
def fibP : Nat → Int × Int
  | 0 => (1, 2)
  | n + 1 => ((fibP n).2, (fibP n).1 + (fibP n).2)
def tc (n : Nat) : Int := (fibP n).1
theorem tc_snd (n : Nat) : (fibP n).2 = tc (n + 1) := rfl
theorem tc_add (n : Nat) : tc (n + 2) = tc n + tc (n + 1) := rfl
theorem tc_step : ∀ n, 1 ≤ tc n ∧ tc n < tc (n + 1)
  | 0 => by decide
  | n + 1 => by
    obtain ⟨h1, h2⟩ := tc_step n
    rw [tc_add]
    omega
def prv (k : Nat) : Int := if k = 0 then 1 else tc (k - 1)
theorem prv_add (k : Nat) : prv k + tc k = tc (k + 1) := by
  cases k with
  | zero => decide
  | succ k => rw [tc_add]; rfl
theorem prv_le (k : Nat) : 1 ≤ prv k ∧ prv k ≤ tc k := by
  cases k with
  | zero => decide
  | succ k => exact ⟨(tc_step k).1, Int.le_of_lt (tc_step k).2⟩
theorem free_all : ∀ k : Nat, 1 + (TSf (List.replicate k true)).2.sum = tc k ∧ mx 1 (TSf (List.replicate k true)).1 = prv k
  | 0 => by decide
  | k + 1 => by
    obtain ⟨h1, h2⟩ := free_all k
    rw [List.replicate_succ]
    simp only [TSf, List.sum_cons, mx, show own true = 1 from rfl]
    have h3 := prv_add k
    have h4 := prv_le k
    refine ⟨by rw [h2]; omega, ?_⟩
    rw [h1, h2]
    show _ = tc k
    split <;> omega
theorem free_top : ∀ k : Nat, (TSf (List.replicate k false ++ [true])).2.sum = tc k ∧ mx 0 (TSf (List.replicate k false ++ [true])).1 = prv k
  | 0 => by decide
  | k + 1 => by
    obtain ⟨h1, h2⟩ := free_top k
    rw [List.replicate_succ, List.cons_append]
    simp only [TSf, List.sum_cons, mx, show own false = 0 from rfl]
    have h3 := prv_add k
    have h4 := prv_le k
    refine ⟨by rw [h2]; omega, ?_⟩
    rw [h1, h2]
    show _ = tc k
    split <;> omega
theorem due_all {L st : Nat} (h : st ≤ L) : (due (List.replicate (L + 1) true) L st).sum = tc (L - st) := by
  unfold due
  rw [List.drop_replicate, show L + 1 - (st + 1) = L - st by omega, (stab (m := L) (by rw [List.length_replicate]; omega)).2, List.sum_cons]
  rw [List.getD_eq_getElem?_getD, List.getElem?_replicate, if_pos (by omega)]
  exact (free_all _).1
theorem due_top {L : Nat} (h : 0 < L) : (due (List.replicate L false ++ [true]) L 0).sum = tc (L - 1) := by
  obtain ⟨k, rfl⟩ : ∃ k, L = k + 1 := ⟨L - 1, by omega⟩
  unfold due
  rw [List.replicate_succ, List.cons_append, List.drop_succ_cons, List.drop_zero, (stab (m := k + 1) (by simp)).2, List.sum_cons, (free_top k).1]
  show 0 + tc k = _
  rw [Int.zero_add]; rfl
theorem due_end {A : List Bool} {n st : Nat} (h : A.length = st + 1) : (due A n st).sum = own (A.getD st false) := by
  unfold due
  rw [List.drop_eq_nil_of_le (by omega)]
  simp [lv]
/-! ### givings of words to kinds -/
def dg (many : Nat) : Nat → Nat → List Nat
  | 0, _ => []
  | n + 1, x => (x % many) :: dg many n (x / many)
theorem dg_len {many : Nat} : ∀ {n x : Nat}, (dg many n x).length = n
  | 0, _ => rfl
  | n + 1, x => by simp [dg, dg_len (n := n)]
theorem dg_lt {many : Nat} (h : 0 < many) : ∀ {n x : Nat}, ∀ d ∈ dg many n x, d < many
  | 0, _ => fun d hd => by cases hd
  | n + 1, x => fun d hd => by
    rcases List.mem_cons.mp hd with rfl | hd
    · exact Nat.mod_lt _ h
    · exact dg_lt h (n := n) d hd
theorem dg_of {many : Nat} (h : 0 < many) : ∀ {ds : List Nat}, (∀ d ∈ ds, d < many) → ∃ x, x < many ^ ds.length ∧ dg many ds.length x = ds
  | [], _ => ⟨0, by simp, rfl⟩
  | d :: ds, hd => by
    obtain ⟨x, h1, h2⟩ := dg_of h fun e he => hd e (List.mem_cons_of_mem _ he)
    have h3 := hd d List.mem_cons_self
    refine ⟨d + many * x, ?_, ?_⟩
    · rw [List.length_cons, Nat.pow_succ, Nat.mul_comm _ many]
      have : many * (x + 1) ≤ many * many ^ ds.length := Nat.mul_le_mul_left _ h1
      rw [Nat.mul_add] at this
      omega
    · show ((d + many * x) % many) :: dg many ds.length ((d + many * x) / many) = _
      rw [Nat.add_mul_mod_self_left, Nat.mod_eq_of_lt h3, Nat.add_mul_div_left _ _ h, Nat.div_eq_of_lt h3, Nat.zero_add, h2]
def spread : Nat → List Nat → List Nat
  | _, [] => []
  | k, c :: cs => List.replicate c k ++ spread (k + 1) cs
theorem spread_len : ∀ {k : Nat} {cs : List Nat}, (spread k cs).length = cs.sum
  | _, [] => rfl
  | k, c :: cs => by simp [spread, spread_len (k := k + 1) (cs := cs)]
theorem spread_in : ∀ {k : Nat} {cs : List Nat} {d : Nat}, d ∈ spread k cs → k ≤ d ∧ d < k + cs.length
  | _, [], d, h => by cases h
  | k, c :: cs, d, h => by
    rcases List.mem_append.mp (show d ∈ List.replicate c k ++ spread (k + 1) cs from h) with h | h
    · have := (List.mem_replicate.mp h).2
      rw [this, List.length_cons]; omega
    · have := spread_in h
      rw [List.length_cons]; omega
theorem spread_count : ∀ {k : Nat} {cs : List Nat} {j : Nat}, (spread k cs).count (k + j) = cs.getD j 0
  | _, [], j => by simp [spread]
  | k, c :: cs, j => by
    rw [show spread k (c :: cs) = List.replicate c k ++ spread (k + 1) cs from rfl, List.count_append, List.count_replicate]
    cases j with
    | zero =>
      have : (spread (k + 1) cs).count k = 0 := List.count_eq_zero.mpr fun h => by have := spread_in h; omega
      rw [Nat.add_zero, this]; simp
    | succ j =>
      have := spread_count (k := k + 1) (cs := cs) (j := j)
      rw [show k + 1 + j = k + (j + 1) by omega] at this
      rw [this, if_neg (by simp), Nat.zero_add]; rfl
theorem sum_one : ∀ {m d : Nat}, ((List.range m).map fun k => if k = d then 1 else 0).sum = if d < m then 1 else 0
  | 0, d => by simp
  | m + 1, d => by
    rw [List.range_succ, List.map_append, List.sum_append, sum_one (m := m)]
    simp only [List.map_cons, List.map_nil, List.sum_cons, List.sum_nil]
    split <;> split <;> split <;> omega
theorem sum_add {f g : Nat → Nat} : ∀ {l : List Nat}, (l.map fun k => f k + g k).sum = (l.map f).sum + (l.map g).sum
  | [] => rfl
  | a :: l => by simp [sum_add (l := l)]; omega
theorem count_sum {m : Nat} : ∀ {ds : List Nat}, (∀ d ∈ ds, d < m) → ((List.range m).map fun k => ds.count k).sum = ds.length
  | [], _ => by
    simp only [List.count_nil, List.length_nil]
    induction (List.range m) with
    | nil => rfl
    | cons a l ih => rw [List.map_cons, List.sum_cons, ih]
  | d :: ds, h => by
    have ih := count_sum (m := m) fun e he => h e (List.mem_cons_of_mem _ he)
    have h1 := h d List.mem_cons_self
    have : (fun k => (d :: ds).count k) = fun k => ds.count k + if k = d then 1 else 0 := by
      funext k
      rw [List.count_cons]
      by_cases e : k = d
      · subst e; simp
      · rw [if_neg (fun h => e (eq_of_beq h).symm), if_neg e]
    rw [this, sum_add, ih, sum_one, if_pos h1, List.length_cons]
theorem sum_le : ∀ {l : List Nat} {f g : Nat → Nat}, (∀ k ∈ l, f k ≤ g k) → (l.map f).sum ≤ (l.map g).sum
  | [], _, _, _ => Nat.le_refl _
  | a :: l, f, g, h => by
    have h1 := h a List.mem_cons_self
    have h2 := sum_le (l := l) fun k hk => h k (List.mem_cons_of_mem _ hk)
    simp only [List.map_cons, List.sum_cons]; omega
theorem sum_getD : ∀ {cs : List Nat}, ((List.range cs.length).map fun k => cs.getD k 0).sum = cs.sum
  | [] => rfl
  | c :: cs => by
    rw [List.length_cons, List.range_succ_eq_map, List.map_cons, List.map_map, List.sum_cons, List.sum_cons]
    have := sum_getD (cs := cs)
    show c + (List.map (fun k => cs.getD k 0) (List.range cs.length)).sum = _
    rw [this]
theorem giving {cs : List Nat} {n : Nat} (h0 : 0 < cs.length) : (∃ x, x < cs.length ^ n ∧ ∀ k, k < cs.length → (dg cs.length n x).count k ≤ cs.getD k 0) ↔ n ≤ cs.sum := by
  constructor
  · rintro ⟨x, hx, h⟩
    have h1 := count_sum (m := cs.length) (ds := dg cs.length n x) (dg_lt h0)
    rw [dg_len] at h1
    have h2 := sum_le (l := List.range cs.length) (f := fun k => (dg cs.length n x).count k) (g := fun k => cs.getD k 0) fun k hk => h k (List.mem_range.mp hk)
    rw [h1, sum_getD] at h2
    exact h2
  · intro h
    obtain ⟨x, h1, h2⟩ := dg_of (many := cs.length) h0 (ds := (spread 0 cs).take n) fun d hd => by
      have := spread_in (List.mem_of_mem_take hd); omega
    rw [List.length_take, spread_len, Nat.min_eq_left h] at h1 h2
    refine ⟨x, h1, fun k hk => ?_⟩
    rw [h2]
    have h3 := spread_count (k := 0) (cs := cs) (j := k)
    rw [Nat.zero_add] at h3
    rw [← h3]
    exact List.Sublist.count_le _ (List.take_sublist _ _)
end K39

namespace K39
/-! ### kinds of both sides -/
/-- how many of g 1, g 2, .. g M are m at least -/
def rN (M : Nat) (g : Nat → Nat) (m : Nat) : Nat := ((List.range M).filter fun j => decide (m ≤ g (j + 1))).length
def gM (M : Nat) : List Bool → List (Nat → Nat)
  | [] => []
  | b :: bs => (fun m => (if m = 1 then (own b).toNat else 0) + ((gM M bs).map fun g => rN M g m).sum) :: gM M bs
def gT (M : Nat) (B : List Bool) : Nat → Nat := (gM M B).headD fun _ => 0
theorem gM_len {M : Nat} : ∀ {B : List Bool}, (gM M B).length = B.length
  | [] => rfl
  | b :: bs => by simp [gM, gM_len (B := bs)]
theorem gM_cons {M : Nat} {b : Bool} {bs : List Bool} : gM M (b :: bs) = gT M (b :: bs) :: gM M bs := rfl
theorem gT_cons {M m : Nat} {b : Bool} {bs : List Bool} : gT M (b :: bs) m = (if m = 1 then (own b).toNat else 0) + ((gM M bs).map fun g => rN M g m).sum := rfl
theorem gM_at {M : Nat} : ∀ {B : List Bool} {k : Nat}, k < B.length → (gM M B)[k]? = some (gT M (B.drop k))
  | b :: bs, 0, _ => rfl
  | b :: bs, k + 1, h => gM_at (B := bs) (k := k) (by simp at h; omega)
  | [], k, h => by simp at h
theorem gM_drop {M : Nat} : ∀ {B : List Bool} {k : Nat}, (gM M B).drop k = gM M (B.drop k)
  | [], k => by simp [gM]
  | b :: bs, 0 => rfl
  | b :: bs, k + 1 => gM_drop (B := bs) (k := k)
theorem rN_le {M m n : Nat} {g : Nat → Nat} (h : m ≤ n) : rN M g n ≤ rN M g m := by
  unfold rN
  induction List.range M with
  | nil => exact Nat.le_refl _
  | cons a l ih =>
    simp only [List.filter_cons]
    by_cases e : n ≤ g (a + 1)
    · rw [if_pos (decide_eq_true e), if_pos (decide_eq_true (show m ≤ g (a + 1) by omega))]
      simp only [List.length_cons]; omega
    · rw [if_neg (by simp; omega)]
      split
      · simp only [List.length_cons]; omega
      · exact ih
theorem sum_mono : ∀ {gs : List (Nat → Nat)} {F G : (Nat → Nat) → Nat}, (∀ g ∈ gs, F g ≤ G g) → (gs.map F).sum ≤ (gs.map G).sum
  | [], _, _, _ => Nat.le_refl _
  | a :: l, F, G, h => by
    have h1 := h a List.mem_cons_self
    have h2 := sum_mono (gs := l) fun g hg => h g (List.mem_cons_of_mem _ hg)
    simp only [List.map_cons, List.sum_cons]; omega
theorem gT_anti {M : Nat} {B : List Bool} {m n : Nat} (h1 : 1 ≤ m) (h : m ≤ n) : gT M B n ≤ gT M B m := by
  cases B with
  | nil => exact Nat.le_refl _
  | cons b bs =>
    rw [gT_cons, gT_cons]
    have e := sum_mono (gs := gM M bs) (F := fun g => rN M g n) (G := fun g => rN M g m) fun g _ => rN_le h
    by_cases h2 : n = 1
    · have : m = 1 := by omega
      rw [if_pos h2, if_pos this]; omega
    · rw [if_neg h2]
      split <;> omega
theorem fl_range {p : Nat → Bool} {N : Nat} : ∀ {M : Nat}, N ≤ M → (∀ j, N ≤ j → p j = false) → ((List.range M).filter p).length = ((List.range N).filter p).length
  | 0, h, _ => by have : N = 0 := by omega
                  rw [this]
  | M + 1, h, hp => by
    by_cases e : N = M + 1
    · rw [e]
    · rw [List.range_succ, List.filter_append, List.length_append, fl_range (M := M) (by omega) hp]
      simp [hp M (by omega)]
theorem fl_all {p : Nat → Bool} : ∀ {N : Nat}, (∀ j, j < N → p j = true) → ((List.range N).filter p).length = N
  | 0, _ => rfl
  | N + 1, h => by
    rw [List.range_succ, List.filter_append, List.length_append, fl_all fun j hj => h j (by omega)]
    simp [h N (by omega)]
/-- a count of a line that never rises is the place up to which it holds -/
theorem rN_is {M m k : Nat} {g : Nat → Nat} (hk : k ≤ M) (h1 : ∀ j, j < k → m ≤ g (j + 1)) (h2 : ∀ j, k ≤ j → g (j + 1) < m) : rN M g m = k := by
  unfold rN
  rw [fl_range (N := k) hk fun j hj => decide_eq_false (by have := h2 j hj; omega)]
  exact fl_all fun j hj => decide_eq_true (h1 j hj)
theorem mx_mono {d e : Int} (h : d ≤ e) : ∀ {xs : List Int}, mx d xs ≤ mx e xs
  | [] => h
  | x :: xs => by
    have ih := mx_mono h (xs := xs)
    simp only [mx]
    by_cases a : mx d xs < x
    · rw [if_pos a]
      by_cases b : mx e xs < x
      · rw [if_pos b]; omega
      · rw [if_neg b]; omega
    · rw [if_neg a]
      by_cases b : mx e xs < x
      · rw [if_pos b]; omega
      · rw [if_neg b]; omega
theorem free_le : ∀ bs : List Bool, 1 + (TSf bs).2.sum ≤ tc bs.length ∧ mx 1 (TSf bs).1 ≤ prv bs.length
  | [] => by decide
  | b :: bs => by
    obtain ⟨h1, h2⟩ := free_le bs
    have o := own_01 b
    have h3 := prv_add bs.length
    have h4 := prv_le bs.length
    have h5 := mx_mono (d := own b) (e := 1) o.2 (xs := (TSf bs).1)
    refine ⟨?_, ?_⟩
    · simp only [TSf, List.sum_cons, List.length_cons]; omega
    · simp only [TSf, mx, List.length_cons]
      show _ ≤ tc bs.length
      split <;> omega
theorem tc_le {m n : Nat} (h : m ≤ n) : tc m ≤ tc n := by
  induction n with
  | zero => have : m = 0 := by omega
            rw [this]; exact Int.le_refl _
  | succ n ih =>
    by_cases e : m = n + 1
    · rw [e]; exact Int.le_refl _
    · have := ih (by omega)
      have := (tc_step n).2
      omega
theorem TSf_nn : ∀ {bs : List Bool}, (∀ x ∈ (TSf bs).1, 0 ≤ x) ∧ ∀ x ∈ (TSf bs).2, 0 ≤ x
  | [] => ⟨fun _ h => (by cases h), fun _ h => (by cases h)⟩
  | b :: bs => by
    obtain ⟨h1, h2⟩ := TSf_nn (bs := bs)
    have o := own_01 b
    have s := sum_nn h2
    refine ⟨fun x hx => ?_, fun x hx => ?_⟩
    · rcases List.mem_cons.mp hx with rfl | hx
      · omega
      · exact h1 x hx
    · rcases List.mem_cons.mp hx with rfl | hx
      · have := (mx_le (d := own b) (xs := (TSf bs).1)).2; omega
      · exact h2 x hx
theorem le_sum : ∀ {l : List Int}, (∀ x ∈ l, 0 ≤ x) → ∀ {x}, x ∈ l → x ≤ l.sum
  | [], _, x, hx => by cases hx
  | a :: r, hl, x, hx => by
    have a0 := hl a List.mem_cons_self
    have r0 := sum_nn fun y hy => hl y (List.mem_cons_of_mem _ hy)
    rw [List.sum_cons]
    rcases List.mem_cons.mp hx with rfl | hx
    · omega
    · have := le_sum (fun y hy => hl y (List.mem_cons_of_mem _ hy)) hx; omega
theorem rN_sum {M m : Nat} : ∀ {l : List (Nat → Nat)} {g}, g ∈ l → rN M g m ≤ (l.map fun g => rN M g m).sum
  | [], _, h => by cases h
  | a :: r, g, h => by
    rw [List.map_cons, List.sum_cons]
    rcases List.mem_cons.mp h with rfl | h
    · omega
    · have := rN_sum (M := M) (m := m) h; omega
theorem rN_some {M m : Nat} : ∀ {l : List (Nat → Nat)}, 1 ≤ (l.map fun g => rN M g m).sum → ∃ g ∈ l, 1 ≤ rN M g m
  | [], h => by simp at h
  | a :: r, h => by
    rw [List.map_cons, List.sum_cons] at h
    by_cases e : 1 ≤ rN M a m
    · exact ⟨a, List.mem_cons_self, e⟩
    · obtain ⟨g, h1, h2⟩ := rN_some (M := M) (m := m) (l := r) (by omega)
      exact ⟨g, List.mem_cons_of_mem _ h1, h2⟩
theorem cast_sum {M : Nat} : ∀ {l : List (Nat → Nat)}, ((l.map fun g => rN M g 1).sum : Int) = (l.map fun g => ((rN M g 1 : Nat) : Int)).sum
  | [] => rfl
  | a :: r => by simp only [List.map_cons, List.sum_cons]; rw [← cast_sum]; omega
/-- the first of a line, and how long it is -/
theorem gM_first {M : Nat} : ∀ {bs : List Bool}, tc (bs.length - 1) ≤ M → ((gM M bs).map fun g => ((g 1 : Nat) : Int)) = (TSf bs).1 ∧ ∀ (k : Nat) g s, (gM M bs)[k]? = some g → (TSf bs).2[k]? = some s → ∀ m, 1 ≤ m → (1 ≤ g m ↔ (m : Int) ≤ s)
  | [], _ => ⟨rfl, fun k g s h => by simp [gM] at h⟩
  | b :: bs, hM => by
    rw [List.length_cons, Nat.add_sub_cancel] at hM
    have le1 := tc_le (m := bs.length - 1) (n := bs.length) (by omega)
    obtain ⟨h1, h2⟩ := gM_first (M := M) (bs := bs) (by omega)
    have tl := TSf_len (bs := bs)
    have gl := gM_len (M := M) (B := bs)
    have bd := free_le bs
    have nn := TSf_nn (bs := bs)
    have o := own_01 b
    -- each line above: as long as the list of the asked says
    have rs : ((gM M bs).map fun g => ((rN M g 1 : Nat) : Int)) = (TSf bs).2 := by
      refine List.ext_getElem? fun k => ?_
      by_cases hk : k < bs.length
      · obtain ⟨g, e1⟩ : ∃ g, (gM M bs)[k]? = some g := ⟨_, List.getElem?_eq_getElem (by omega)⟩
        obtain ⟨v, e2⟩ : ∃ v, (TSf bs).2[k]? = some v := ⟨_, List.getElem?_eq_getElem (by omega)⟩
        rw [List.getElem?_map, e1, e2]
        have sp := h2 k g v e1 e2
        have mv := List.mem_of_getElem? e2
        have s0 := nn.2 _ mv
        have hs := le_sum nn.2 mv
        show some _ = some _
        congr 1
        have h5 : ∀ j, j < v.toNat → 1 ≤ g (j + 1) := fun j hj => (sp (j + 1) (by omega)).mpr (by omega)
        have h6 : ∀ j, v.toNat ≤ j → g (j + 1) < 1 := fun j hj => by
          have q := (sp (j + 1) (by omega)).mp
          by_cases z : 1 ≤ g (j + 1)
          · have := q z; omega
          · omega
        have := rN_is (M := M) (m := 1) (k := v.toNat) (g := g) (by omega) h5 h6
        show ((rN M g 1 : Nat) : Int) = v
        rw [this]; omega
      · rw [List.getElem?_eq_none (by rw [List.length_map]; omega), List.getElem?_eq_none (by omega)]
    have sumR : (((gM M bs).map fun g => rN M g 1).sum : Int) = (TSf bs).2.sum := by
      rw [← rs]
      exact cast_sum
    refine ⟨?_, ?_⟩
    · rw [gM_cons, List.map_cons, h1]
      show _ = (own b + (TSf bs).2.sum) :: (TSf bs).1
      congr 1
      rw [gT_cons, if_pos rfl]
      omega
    · intro k g s hg hs m hm
      cases k with
      | succ k => exact h2 k g s hg hs m hm
      | zero =>
        rw [gM_cons] at hg
        cases hg
        cases hs
        rw [gT_cons]
        have up := mx_le (d := own b) (xs := (TSf bs).1)
        have M1 : 1 ≤ M := by have := (tc_step bs.length).1; omega
        have some_ : ∀ (k : Nat) (g : Nat → Nat) (t : Int), (gM M bs)[k]? = some g → (TSf bs).1[k]? = some t → (1 ≤ rN M g m ↔ (m : Int) ≤ t) := fun k g t eg et => by
          have e3 : ((g 1 : Nat) : Int) = t := by
            have := congrArg (fun l : List Int => l[k]?) h1
            simp only [List.getElem?_map, eg, et] at this
            exact Option.some.inj this
          have hk : k < bs.length := by have := (List.getElem?_eq_some_iff.mp eg).1; omega
          have eg2 : g = gT M (bs.drop k) := by
            have := gM_at (M := M) hk
            rw [eg] at this
            exact Option.some.inj this
          rw [← e3]
          constructor
          · intro h
            unfold rN at h
            obtain ⟨j, hj⟩ := List.exists_mem_of_length_pos h
            have := (List.mem_filter.mp hj).2
            simp only [decide_eq_true_eq] at this
            rw [eg2] at this ⊢
            have := gT_anti (M := M) (B := bs.drop k) (m := 1) (n := j + 1) (by omega) (by omega)
            omega
          · intro h
            unfold rN
            refine List.length_pos_of_mem (a := 0) (List.mem_filter.mpr ⟨List.mem_range.mpr (by omega), decide_eq_true ?_⟩)
            show m ≤ g 1
            omega
        constructor
        · intro h
          show (m : Int) ≤ mx (own b) (TSf bs).1
          by_cases q : 1 ≤ ((gM M bs).map fun g => rN M g m).sum
          · obtain ⟨g, hg, h3⟩ := rN_some q
            obtain ⟨k, hk, ek⟩ := List.getElem_of_mem hg
            obtain ⟨t, et⟩ : ∃ t, (TSf bs).1[k]? = some t := ⟨_, List.getElem?_eq_getElem (by omega)⟩
            have h4 := (some_ k g t (by rw [List.getElem?_eq_getElem hk, ek]) et).mp h3
            have h5 := up.1 _ (List.mem_of_getElem? et)
            omega
          · have hq : m = 1 := Classical.byContradiction fun z => by rw [if_neg z] at h; omega
            rw [if_pos hq] at h
            have := up.2
            omega
        · intro h
          have h : (m : Int) ≤ mx (own b) (TSf bs).1 := h
          rcases mx_mem (d := own b) (xs := (TSf bs).1) with e | e
          · rw [e] at h
            have hq : m = 1 := by omega
            rw [if_pos hq]; omega
          · obtain ⟨k, hk, e2⟩ := List.getElem_of_mem e
            obtain ⟨g, eg⟩ : ∃ g, (gM M bs)[k]? = some g := ⟨_, List.getElem?_eq_getElem (by omega)⟩
            have h3 := (some_ k g _ eg (by rw [List.getElem?_eq_getElem hk, e2])).mpr h
            have := rN_sum (M := M) (m := m) (List.mem_of_getElem? eg)
            omega
end K39

namespace K39
theorem fl_list {p : Nat → Bool} {N : Nat} : ∀ {M : Nat}, N ≤ M → (∀ j, N ≤ j → j < M → p j = false) → (List.range M).filter p = (List.range N).filter p
  | 0, h, _ => by have : N = 0 := by omega
                  rw [this]
  | M + 1, h, hp => by
    by_cases e : N = M + 1
    · rw [e]
    · rw [List.range_succ, List.filter_append, fl_list (M := M) (by omega) fun j a b => hp j a (by omega)]
      simp [hp M (by omega) (by omega)]
theorem fl_full {p : Nat → Bool} {N : Nat} (h : ∀ j, j < N → p j = true) : (List.range N).filter p = List.range N :=
  List.filter_eq_self.mpr fun j hj => h j (List.mem_range.mp hj)
/-- never rises from 1 on -/
def Ant (f : Nat → Nat) : Prop := ∀ m n, 1 ≤ m → m ≤ n → f n ≤ f m
theorem gT_ant {M : Nat} {B : List Bool} : Ant (gT M B) := fun _ _ h1 h2 => gT_anti h1 h2
theorem gM_ant {M : Nat} {B : List Bool} {g} (h : g ∈ gM M B) : Ant g := by
  obtain ⟨k, hk, e⟩ := List.getElem_of_mem h
  rw [gM_len] at hk
  have := gM_at (M := M) hk
  rw [List.getElem?_eq_getElem (by rw [gM_len]; exact hk), e] at this
  rw [Option.some.inj this]
  exact gT_ant
/-- the counted places are the first ones -/
theorem rN_range {M m : Nat} {f : Nat → Nat} (h : Ant f) : (List.range M).filter (fun j => decide (m ≤ f (j + 1))) = List.range (rN M f m) := by
  have key : ∀ M, ∃ k, k ≤ M ∧ (List.range M).filter (fun j => decide (m ≤ f (j + 1))) = List.range k ∧ (k < M → f (k + 1) < m) := fun M => by
    induction M with
    | zero => exact ⟨0, Nat.le_refl _, rfl, fun h => absurd h (by omega)⟩
    | succ M ih =>
      obtain ⟨k, h1, h2, h3⟩ := ih
      rw [List.range_succ, List.filter_append, h2]
      by_cases e : k = M
      · subst e
        by_cases q : m ≤ f (k + 1)
        · refine ⟨k + 1, Nat.le_refl _, ?_, fun h => absurd h (by omega)⟩
          simp [q, List.range_succ]
        · exact ⟨k, by omega, by simp [q], fun _ => by omega⟩
      · have h4 := h3 (by omega)
        have h5 := h (k + 1) (M + 1) (by omega) (by omega)
        refine ⟨k, by omega, by simp; omega, fun _ => h4⟩
  obtain ⟨k, _, h2, _⟩ := key M
  have : rN M f m = k := by unfold rN; rw [h2, List.length_range]
  rw [this, h2]
theorem rN_lt {M m j : Nat} {f : Nat → Nat} (h : Ant f) (hj : j < M) : j < rN M f m ↔ m ≤ f (j + 1) := by
  have e := rN_range (M := M) (m := m) h
  have t : j ∈ (List.range M).filter (fun j => decide (m ≤ f (j + 1))) ↔ j ∈ List.range M ∧ decide (m ≤ f (j + 1)) = true := List.mem_filter
  rw [e, List.mem_range, List.mem_range, decide_eq_true_eq] at t
  rw [t]
  exact ⟨fun x => x.2, fun x => ⟨hj, x⟩⟩
theorem rN_leM {M m : Nat} {f : Nat → Nat} : rN M f m ≤ M := by
  unfold rN
  have := List.length_filter_le (fun j => decide (m ≤ f (j + 1))) (List.range M)
  rw [List.length_range] at this
  exact this
/-- a table of the first values -/
def tabl (M : Nat) (f : Nat → Nat) : List Int := (List.range M).map fun j => ((f (j + 1) : Nat) : Int)
theorem tabl_len {M : Nat} {f : Nat → Nat} : (tabl M f).length = M := by simp [tabl]
theorem tabl_at {M j : Nat} {f : Nat → Nat} (h : j < M) : (tabl M f)[j]? = some ((f (j + 1) : Nat) : Int) := by
  simp [tabl, h]
theorem tabl_succ {M : Nat} {f : Nat → Nat} : tabl (M + 1) f = tabl M f ++ [((f (M + 1) : Nat) : Int)] := by
  simp [tabl, List.range_succ]
theorem tabl_cong {M : Nat} {f g : Nat → Nat} (h : ∀ j, j < M → f (j + 1) = g (j + 1)) : tabl M f = tabl M g := by
  unfold tabl
  exact List.map_congr_left fun j hj => by rw [h j (List.mem_range.mp hj)]
/-- the split -/
def spl (M : Nat) (b : Bool) (bs : List Bool) (m : Nat) : List Int := (if m = 1 then own b else 0) :: (gM M bs).map fun g => ((rN M g m : Nat) : Int)
theorem cast_sum2 {M m : Nat} : ∀ {l : List (Nat → Nat)}, ((l.map fun g => rN M g m).sum : Int) = (l.map fun g => ((rN M g m : Nat) : Int)).sum
  | [] => rfl
  | a :: r => by simp only [List.map_cons, List.sum_cons]; rw [← cast_sum2]; omega
theorem spl_sum {M m : Nat} {b : Bool} {bs : List Bool} : (spl M b bs m).sum = ((gT M (b :: bs) m : Nat) : Int) := by
  unfold spl
  rw [List.sum_cons, ← cast_sum2, gT_cons]
  have := own_01 b
  split <;> omega
theorem spl_len {M m : Nat} {b : Bool} {bs : List Bool} : (spl M b bs m).length = bs.length + 1 := by simp [spl, gM_len]
/-- two bounds that are wide enough count alike -/
theorem gM_same {M N m : Nat} (hm : 1 ≤ m) : ∀ {bs : List Bool}, tc bs.length ≤ M → tc bs.length ≤ N → ((gM M bs).map fun g => rN M g m) = ((gM N bs).map fun g => rN N g m) ∧ ∀ (k : Nat) g h, (gM M bs)[k]? = some g → (gM N bs)[k]? = some h → ∀ m, 1 ≤ m → g m = h m := by
  intro bs
  induction bs generalizing m with
  | nil => exact fun _ _ => ⟨rfl, fun k g h a => by simp [gM] at a⟩
  | cons b bs ih =>
    intro hM hN
    rw [List.length_cons] at hM hN
    have le1 := tc_le (m := bs.length) (n := bs.length + 1) (by omega)
    have pt : ∀ (k : Nat) g h, (gM M (b :: bs))[k]? = some g → (gM N (b :: bs))[k]? = some h → ∀ m, 1 ≤ m → g m = h m := fun k g h e1 e2 m hm => by
      cases k with
      | succ k => exact (ih hm (by omega) (by omega)).2 k g h e1 e2 m hm
      | zero =>
        rw [gM_cons] at e1 e2
        cases e1; cases e2
        rw [gT_cons, gT_cons, (ih hm (by omega) (by omega)).1]
    refine ⟨List.ext_getElem? fun k => ?_, pt⟩
    by_cases hk : k < (b :: bs).length
    · obtain ⟨g, e1⟩ : ∃ g, (gM M (b :: bs))[k]? = some g := ⟨_, List.getElem?_eq_getElem (by rw [gM_len]; exact hk)⟩
      obtain ⟨h, e2⟩ : ∃ g, (gM N (b :: bs))[k]? = some g := ⟨_, List.getElem?_eq_getElem (by rw [gM_len]; exact hk)⟩
      obtain ⟨v, e3⟩ : ∃ v, (TSf (b :: bs)).2[k]? = some v := ⟨_, List.getElem?_eq_getElem (by rw [TSf_len.2]; exact hk)⟩
      rw [List.getElem?_map, List.getElem?_map, e1, e2]
      show some (rN M g m) = some (rN N h m)
      congr 1
      have f1 := (gM_first (M := M) (bs := b :: bs) (by rw [List.length_cons]; exact Int.le_trans le1 hM)).2 k g v e1 e3
      have f2 := (gM_first (M := N) (bs := b :: bs) (by rw [List.length_cons]; exact Int.le_trans le1 hN)).2 k h v e2 e3
      have nn := TSf_nn (bs := b :: bs)
      have mv := List.mem_of_getElem? e3
      have v0 := nn.2 _ mv
      have hs := le_sum nn.2 mv
      have bd := (free_le (b :: bs)).1
      rw [List.length_cons] at bd
      have z1 : ∀ j, v.toNat ≤ j → decide (m ≤ g (j + 1)) = false := fun j hj => decide_eq_false fun q => by
        have := (f1 (j + 1) (by omega)).mp (by omega); omega
      have z2 : ∀ j, v.toNat ≤ j → decide (m ≤ h (j + 1)) = false := fun j hj => decide_eq_false fun q => by
        have := (f2 (j + 1) (by omega)).mp (by omega); omega
      unfold rN
      rw [fl_range (N := v.toNat) (by omega) z1, fl_range (N := v.toNat) (by omega) z2]
      congr 1
      exact List.filter_congr fun j _ => by rw [pt k g h e1 e2 (j + 1) (by omega)]
    · rw [List.getElem?_eq_none (by rw [List.length_map, gM_len]; omega), List.getElem?_eq_none (by rw [List.length_map, gM_len]; omega)]
theorem gT_same {M N m : Nat} {b : Bool} {bs : List Bool} (hm : 1 ≤ m) (hM : tc bs.length ≤ M) (hN : tc bs.length ≤ N) : gT M (b :: bs) m = gT N (b :: bs) m := by
  rw [gT_cons, gT_cons, (gM_same hm hM hN).1]
theorem spl_same {M N m : Nat} {b : Bool} {bs : List Bool} (hm : 1 ≤ m) (hM : tc bs.length ≤ M) (hN : tc bs.length ≤ N) : spl M b bs m = spl N b bs m := by
  unfold spl
  have h := congrArg (fun l : List Nat => l.map fun n : Nat => (n : Int)) (gM_same hm hM hN).1
  simp only [List.map_map] at h
  exact congrArg _ h
/-- beyond what can be told nothing is -/
theorem spl_zero {M m : Nat} {b : Bool} {bs : List Bool} (hM : tc bs.length ≤ M) (hm : tc bs.length < m) : spl M b bs m = List.replicate (bs.length + 1) 0 := by
  have t1 := (tc_step bs.length).1
  unfold spl
  rw [if_neg (by omega), List.replicate_succ]
  congr 1
  refine List.eq_replicate_iff.mpr ⟨by simp [gM_len], fun x hx => ?_⟩
  obtain ⟨g, hg, rfl⟩ := List.mem_map.mp hx
  have le1 := tc_le (m := bs.length - 1) (n := bs.length) (by omega)
  have f1 := (gM_first (M := M) (bs := bs) (by omega)).1
  have in1 : ((g 1 : Nat) : Int) ∈ (TSf bs).1 := by
    rw [← f1]
    exact List.mem_map.mpr ⟨g, hg, rfl⟩
  have u1 := (mx_le (d := 1) (xs := (TSf bs).1)).1 _ in1
  have u2 := (free_le bs).2
  have u3 := (prv_le bs.length).2
  have an := gM_ant hg
  have : rN M g m = 0 := rN_is (k := 0) (by omega) (fun j h => absurd h (by omega)) fun j _ => by
    have := an 1 (j + 1) (by omega) (by omega)
    omega
  rw [this]; rfl
/-- the asked says of a line's first -/
def tS_ (A : List Bool) : Int := (TSf A).2.headD 0
theorem gT_pos {M m : Nat} {b : Bool} {bs : List Bool} (hM : tc bs.length ≤ M) (hm : 1 ≤ m) : 1 ≤ gT M (b :: bs) m ↔ m ≤ rN M (gT M (b :: bs)) 1 := by
  have f := (gM_first (M := M) (bs := b :: bs) (by rw [List.length_cons]; exact hM)).2 0 (gT M (b :: bs)) (mx (own b) (TSf bs).1) rfl rfl
  have nn := TSf_nn (bs := b :: bs)
  have bd := (free_le (b :: bs)).1
  have v0 := nn.2 _ List.mem_cons_self
  have t := (mx_le (d := own b) (xs := (TSf bs).1))
  have h3 : mx (own b) (TSf bs).1 ≤ tc bs.length := by
    have := mx_mono (d := own b) (e := 1) (own_01 b).2 (xs := (TSf bs).1)
    have := (free_le bs).2
    have := (prv_le bs.length).2
    omega
  have e : rN M (gT M (b :: bs)) 1 = (mx (own b) (TSf bs).1).toNat := rN_is (by omega) (fun j hj => (f (j + 1) (by omega)).mpr (by omega)) fun j hj => by
    by_cases q : 1 ≤ gT M (b :: bs) (j + 1)
    · have := (f (j + 1) (by omega)).mp q; omega
    · omega
  rw [e]
  have := f m hm
  omega
theorem gT_one {M : Nat} {b : Bool} {bs : List Bool} (hM : tc bs.length ≤ M) : ((gT M (b :: bs) 1 : Nat) : Int) = own b + (TSf bs).2.sum := by
  have f := (gM_first (M := M) (bs := b :: bs) (by rw [List.length_cons]; exact hM)).1
  rw [gM_cons] at f
  exact (List.cons.inj f).1
theorem told_one {M n : Nat} {A : List Bool} (h0 : A ≠ []) (hM : tc (A.length - 1) ≤ M) (hn : A.length ≤ n + 1) : (due A n 0).sum = ((gT M A 1 : Nat) : Int) := by
  cases A with
  | nil => exact absurd rfl h0
  | cons b bs =>
    rw [List.length_cons] at hn
    rw [gT_one (by exact hM)]
    unfold due
    rw [List.drop_succ_cons, List.drop_zero, (stab (m := n) (by omega)).2]
    exact List.sum_cons
/-- the corners, the least number of kinds of west last -/
def crn (W : Nat) (f : Nat → Nat) : List (Int × Int) := (((List.range W).filter fun j => decide (f (j + 2) < f (j + 1))).map fun j => (((f (j + 1) : Nat) : Int), ((j : Int) + 1)))
theorem crn_same {M W : Nat} {f : Nat → Nat} (h : W ≤ M) (hz : ∀ j, W ≤ j → f (j + 1) = 0) : crn M f = crn W f := by
  unfold crn
  rw [fl_list h fun j a _ => decide_eq_false (by have := hz j a; omega)]
theorem crn_desc {W : Nat} {f : Nat → Nat} (h : Ant f) : (crn W f).Pairwise fun a b => b.1 < a.1 := by
  unfold crn
  rw [List.pairwise_map]
  refine List.Pairwise.imp_of_mem (R := fun a b => a < b) (fun {a b} ha hb hab => ?_) (List.Pairwise.filter _ List.pairwise_lt_range)
  have h1 := (List.mem_filter.mp ha).2
  simp only [decide_eq_true_eq] at h1
  have h2 := h (a + 2) (b + 1) (by omega) (by omega)
  show ((f (b + 1) : Nat) : Int) < ((f (a + 1) : Nat) : Int)
  omega
end K39

namespace Jv
open PySem PySem.Spec PyProof.Rows L2
section
variable {σ : L2.St} {H : Hp} {te : TE} {tl th : TO} {r : V → Option Int → Option Int → Hp → VK → Prop} {Q : VK} {P : Option Int → Hp → Prop}
theorem r_tSl (h : te σ H fun x H1 => tl σ H1 fun l H2 => th σ H2 fun u H3 => r x l u H3 Q) : tSl r te tl th σ H Q := h
theorem r_noPart (h : P none H) : tNoPart σ H P := h
theorem r_part (h : te σ H fun x H1 => ∃ i, x = .int i ∧ P (some i) H1) : tPart te σ H P := h
theorem r_partI {i : Int} {P : Int → Prop} (h : P i) : ∃ j, V.int i = .int j ∧ P j := ⟨i, rfl, h⟩
end
section
variable {K : PySem.W.Frag} {H H' : Hp} {Q : VK} {a b : Addr} {xs ys : List V} {lo hi : Option Int}
theorem r_slL (h : H a = some (.lst xs)) (q : ∀ p H', H p = none → Same H H' → H' p = some (.lst (cutV xs lo hi)) → Q (.ref p) H') : rSlL K (.ref a) lo hi H Q := ⟨a, xs, rfl, sqL_at h, fun p hp => q p _ hp (same_new hp) upd_same⟩
theorem r_cat (h1 : H a = some (.lst xs)) (h2 : H b = some (.lst ys)) (few : xs.length + ys.length ≤ 1000) (q : ∀ p H', H p = none → Same H H' → H' p = some (.lst (xs ++ ys)) → Q (.ref p) H') : rCat (.ref a) (.ref b) H Q :=
  ⟨a, b, xs, ys, rfl, rfl, h1, h2, small_of few, fun p hp => q p _ hp (same_new hp) upd_same⟩
theorem cut_take {k : Int} (h : 0 ≤ k) : cutV xs none (some k) = xs.take k.toNat := by
  obtain ⟨j, rfl⟩ : ∃ j : Nat, k = j := ⟨k.toNat, by omega⟩
  unfold cutV
  rw [HT.sIx_none, HT.sIx_nat, List.drop_zero, Nat.sub_zero, ← List.take_take, List.take_length]; rfl
theorem cut_drop {k : Int} (h : 0 ≤ k) (h2 : k.toNat ≤ xs.length) : cutV xs (some k) none = xs.drop k.toNat := by
  obtain ⟨j, rfl⟩ : ∃ j : Nat, k = j := ⟨k.toNat, by omega⟩
  unfold cutV
  rw [HT.sIx_none, HT.sIx_nat]
  have e : min j xs.length = j := by simp at h2; omega
  rw [e, List.take_of_length_le (by rw [List.length_drop]; omega)]; rfl
theorem DvAll.take : ∀ {vs : List V} {ds : List PyData} (n : Nat), DvAll K H vs ds → DvAll K H (vs.take n) (ds.take n)
  | _, _, 0, _ => by simp; exact .nil
  | _, _, n + 1, .nil => .nil
  | _, _, n + 1, .cons a b => .cons a (DvAll.take n b)
theorem DvAll.drop : ∀ {vs : List V} {ds : List PyData} (n : Nat), DvAll K H vs ds → DvAll K H (vs.drop n) (ds.drop n)
  | _, _, 0, h => h
  | _, _, n + 1, .nil => .nil
  | _, _, n + 1, .cons _ b => DvAll.drop n b
theorem DvAll.one {v : V} {d : PyData} (h : Dv K H v d) : DvAll K H [v] [d] := .cons h .nil
end
end Jv

namespace Jv
open PySem PySem.Spec PyProof.Rows L2
/-! ### comprehensions whose items are numbers or new lists -/
section
variable {K : PySem.W.Frag} {σ : L2.St} {H : Hp} {te : TE} {Q : VK} {j a b : Nat} {xs : List V}
theorem lcEnNW {J : It} {G : Hp → Prop} (w : Walk J xs.length G (YPair (fun i => some (.int (i : Nat))) (fun i => xs[i]?))) (hG : ∀ H', Same H H' → G H') (F : Nat → V) (few : xs.length ≤ 900)
    (hw : ∀ x y, wipe (((wipe σ [a, b]).set a (some x)).set b (some y)) [a, b] = wipe σ [a, b])
    (hs : ∀ i v H1, xs[i]? = some v → Same H H1 → ∀ P : VK, (∀ H2, Same H1 H2 → P (F i) H2) → te (((wipe σ [a, b]).set a (some (.int (i : Nat)))).set b (some v)) H1 P)
    (hd : ∀ D H1, Same H H1 → H D = none → H1 D = some (.lst ((List.range xs.length).map F)) → Q (.ref D) H1) : ∀ D, H D = none → ∃ W : Nat → Nat → Hp → Prop, (∃ m, W 0 m (upd H D (.lst []))) ∧ ∀ i m H, W i m H →
      (J.stop i H ∧ Q (.ref D) H) ∨ (J.go i H ∧ ∃ Nx : Hp → Prop, (∀ H', Nx H' → ∃ m', m' < m ∧ W (i + 1) m' H') ∧ ∀ x H', J.yld i H x H' → gTup K 2 (gCons (gName a) (gCons (gName b) gNil)) x (wipe σ [a, b]) H' fun σ2 H2 => wipe σ2 [a, b] = wipe σ [a, b] ∧ tYes σ2 H2 fun b H3 =>
        if b = true then te σ2 H3 fun y H4 => ∃ acc, H4 D = some (.lst acc) ∧ acc.length < sizeLine ∧ Nx (upd H4 D (.lst (acc ++ [y]))) else Nx H3) := by
  intro D hD
  refine lc_it w (fun i H1 => Same H H1 ∧ H1 D = some (.lst ((List.range i).map F))) ⟨same_new hD, upd_same⟩ (fun i H1 _ h => hG H1 h.1) ?_ ?_
  · rintro i x H1 H2 hi ⟨s1, e1⟩ ⟨T, y, z, rfl, hT, rfl, e2, e3⟩
    cases e2
    have sN := same_new (u := .tup [.int (i : Nat), z]) hT
    refine ⟨T, _, rfl, sqT_at upd_same, rfl, _, _, rfl, _, _, rfl, rfl, hw _ _, r_yes (r_ift ?_)⟩
    refine hs i z _ e3 (s1.trans sN) _ fun H3 s3 => ⟨_, s3 _ _ (sN _ _ e1), small_lt (by rw [List.length_map, List.length_range]; omega), fun c o e => ?_, ?_⟩
    · exact kpO (s3 _ _ (sN _ _ (s1 c o e))) (ne_of_none e hD)
    · rw [upd_same, List.range_succ, List.map_append]; rfl
  · rintro H1 ⟨s1, e1⟩
    exact hd D H1 s1 hD e1
theorem lcEnN {ta : TA} {t : Addr} (hit : ∀ P : List V → Hp → Prop, P [.ref t] H → ta σ H P) (ht : SqL K H t xs) (F : Nat → V) (few : xs.length ≤ 900)
    (hw : ∀ x y, wipe (((wipe σ [a, b]).set a (some x)).set b (some y)) [a, b] = wipe σ [a, b])
    (hs : ∀ i v H1, xs[i]? = some v → Same H H1 → ∀ P : VK, (∀ H2, Same H1 H2 → P (F i) H2) → te (((wipe σ [a, b]).set a (some (.int (i : Nat)))).set b (some v)) H1 P)
    (hd : ∀ D H1, Same H H1 → H D = none → H1 D = some (.lst ((List.range xs.length).map F)) → Q (.ref D) H1) : tLc (iEnum K ta) (gTup K 2 (gCons (gName a) (gCons (gName b) gNil))) tYes te [a, b] σ H Q :=
  hit _ ⟨t, xs, rfl, ht, lcEnNW walk_enum (fun H' s => s.seq ht) F few hw hs hd⟩
theorem lcFnW {J : It} {G : Hp → Prop} {Y : Nat → Hp → V → Hp → Prop} {n : Nat} {Fx : Nat → V → Prop} (w : Walk J n G Y) (hG : ∀ H', Same H H' → G H') (hy : ∀ i H x H', i < n → Y i H x H' → H' = H ∧ Fx i x) (F : Nat → V) (few : n ≤ 900)
    (hs : ∀ i v H1, i < n → Fx i v → Same H H1 → ∀ P : VK, (∀ H2, Same H1 H2 → P (F i) H2) → te ((σ.set j none).set j (some v)) H1 P)
    (hd : ∀ D H1, Same H H1 → H D = none → H1 D = some (.lst ((List.range n).map F)) → Q (.ref D) H1) : ∀ D, H D = none → ∃ W : Nat → Nat → Hp → Prop, (∃ m, W 0 m (upd H D (.lst []))) ∧ ∀ i m H, W i m H →
      (J.stop i H ∧ Q (.ref D) H) ∨ (J.go i H ∧ ∃ Nx : Hp → Prop, (∀ H', Nx H' → ∃ m', m' < m ∧ W (i + 1) m' H') ∧ ∀ x H', J.yld i H x H' → gName j x (wipe σ [j]) H' fun σ2 H2 => wipe σ2 [j] = wipe σ [j] ∧ tYes σ2 H2 fun b H3 =>
        if b = true then te σ2 H3 fun y H4 => ∃ acc, H4 D = some (.lst acc) ∧ acc.length < sizeLine ∧ Nx (upd H4 D (.lst (acc ++ [y]))) else Nx H3) := by
  intro D hD
  refine lc_it w (fun i H1 => Same H H1 ∧ H1 D = some (.lst ((List.range i).map F))) ⟨same_new hD, upd_same⟩ (fun i H1 _ h => hG H1 h.1) ?_ ?_
  · rintro i x H1 H2 hi ⟨s1, e1⟩ hx
    obtain ⟨rfl, hf⟩ := hy i _ _ _ hi hx
    refine ⟨wipe1, r_yes (r_ift ?_)⟩
    refine hs i x _ hi hf s1 _ fun H3 s3 => ⟨_, s3 _ _ e1, small_lt (by rw [List.length_map, List.length_range]; omega), fun c o e => ?_, ?_⟩
    · exact kpO (s3 _ _ (s1 c o e)) (ne_of_none e hD)
    · rw [upd_same, List.range_succ, List.map_append]; rfl
  · rintro H1 ⟨s1, e1⟩
    exact hd D H1 s1 hD e1
/-- over a range -/
theorem lcFn {ta : TA} {n : Nat} {k : Int} (hit : ∀ P : List V → Hp → Prop, P [.int k] H → ta σ H P) (hk : k = n) (F : Nat → V) (few : n ≤ 900)
    (hs : ∀ (i : Nat) (H1 : Hp), i < n → Same H H1 → ∀ P : VK, (∀ H2, Same H1 H2 → P (F i) H2) → te ((σ.set j none).set j (some (.int (i : Nat)))) H1 P)
    (hd : ∀ D H1, Same H H1 → H D = none → H1 D = some (.lst ((List.range n).map F)) → Q (.ref D) H1) : tLc (iRng1 ta) (gName j) tYes te [j] σ H Q := by
  subst hk
  exact hit _ ⟨_, rfl, by omega, by omega, lcFnW (walk_range (lo := 0) (n := ((n : Nat) : Int).toNat)) (fun _ _ => trivial) yfn F (by omega) (fun i v H1 hi hv s P hP => by subst hv; rw [Int.zero_add]; exact hs i H1 (by omega) s P hP) fun D H1 s hD e => hd D H1 s hD (by rw [Int.toNat_natCast] at e; exact e)⟩
/-- over a list that a name holds -/
theorem lcFl {i : Nat} {t : Addr} (hv : σ[i]? = some (some (.ref t))) (ht : SqL K H t xs) (F : Nat → V) (few : xs.length ≤ 900)
    (hs : ∀ i v H1, xs[i]? = some v → Same H H1 → ∀ P : VK, (∀ H2, Same H1 H2 → P (F i) H2) → te ((σ.set j none).set j (some v)) H1 P)
    (hd : ∀ D H1, Same H H1 → H D = none → H1 D = some (.lst ((List.range xs.length).map F)) → Q (.ref D) H1) : tLc (iList K (tVar i)) (gName j) tYes te [j] σ H Q :=
  ⟨_, hv, t, rfl, ⟨xs, ht⟩, lcFnW walk_list (fun H' s => s.seq ht) yat F few (fun i v H1 _ hv s P hP => hs i v H1 hv s P hP) hd⟩
/-- new lists, one for each turn of a range -/
theorem lcOwnR {ta : TA} {n : Nat} {k : Int} (hit : ∀ P : List V → Hp → Prop, P [.int k] H → ta σ H P) (hk : k = n) (F : Nat → List V) (few : n ≤ 900)
    (hs : ∀ (i : Nat) D (H1 : Hp), i < n → Same H H1 → H D = none → ∀ P : VK, (∀ t H2, H1 t = none → Same H1 H2 → H2 t = some (.lst (F i)) → P (.ref t) H2) → te ((σ.set j none).set j (some (.int (i : Nat)))) H1 P)
    (hd : ∀ D (As : List Addr) H1, Same H H1 → H D = none → As.length = n → As.Nodup → D ∉ As → (∀ b ∈ As, H b = none) → H1 D = some (.lst (As.map V.ref)) → (∀ (k : Nat) b, As[k]? = some b → H1 b = some (.lst (F k))) → Q (.ref D) H1) : tLc (iRng1 ta) (gName j) tYes te [j] σ H Q := by
  subst hk
  exact hit _ ⟨_, rfl, by omega, by omega, lcOwnD (walk_range (lo := 0) (n := ((n : Nat) : Int).toNat)) (fun _ _ => trivial) yfn F (by omega) (fun i v D H1 hi hv s hD P hP => by subst hv; rw [Int.zero_add]; exact hs i D H1 (by omega) s hD P hP) fun D As H1 s hD e => hd D As H1 s hD (by rw [Int.toNat_natCast] at e; exact e)⟩
theorem inV_ints {z : Int} : ∀ {ns : List Int}, inV (.int z) (ns.map V.int) = decide (z ∈ ns)
  | [] => by simp [inV]
  | a :: r => by
    have ih := inV_ints (z := z) (ns := r)
    unfold inV at ih ⊢
    rw [List.map_cons, List.any_cons, ih, eqV_ints]
    by_cases h : a = z
    · subst h; simp
    · have h2 : ¬ z = a := fun e => h e.symm
      simp [h, h2]
theorem flat_ints {ns : List Int} : (ns.map V.int).all flatV = true := by
  rw [List.all_map, List.all_eq_true]; exact fun z _ => rfl
theorem r_in {x : V} {z : Int} {ns : List Int} (h : Sk K H x (ns.map V.int)) (q : Q (.bl (decide (z ∈ ns))) H) : rIn K false (.int z) x H Q := by
  obtain ⟨a, rfl, h⟩ := h
  refine ⟨a, ns.map V.int, rfl, h, rfl, flat_ints, ?_⟩
  rw [inV_ints]; exact q
end
end Jv

namespace K39
open PySem PySem.Spec PyProof.Rows L2
/-! ### what the program's defs promise -/
theorem own_def (b : Bool) : own b = if b = true then 1 else 0 := rfl
/-- good ends: which are allowed -/
def EndsOf (d : PyData) (L : Nat) (A : List Bool) : Prop := (d = .none ∧ A = List.replicate (L + 1) true) ∨
  ∃ ns : List Int, Jv.seqD d = some (ns.map PyData.int) ∧ (∀ z ∈ ns, 0 ≤ z ∧ z ≤ L) ∧ ns.length ≤ 200 ∧ A = (List.range (L + 1)).map fun k : Nat => decide ((k : Int) ∈ ns)
theorem EndsOf.len {d : PyData} {L : Nat} {A : List Bool} (h : EndsOf d L A) : A.length = L + 1 := by
  rcases h with ⟨_, rfl⟩ | ⟨_, _, _, _, rfl⟩ <;> simp
def BadE (d : PyData) (L : Int) : Prop := d ≠ .none ∧ ∀ ds, Jv.seqD d = some ds → ds.length ≤ 200 ∧ ds.all (fun e => Jv.wholeD e (.int 0) (.int L)) = false
def WordsOf (d : PyData) (L m : Nat) : Prop := (d = .none ∧ m = L + 1) ∨ ∃ w : Int, d = .int w ∧ 1 ≤ w ∧ (m : Int) = if (L : Int) + 1 < w then (L : Int) + 1 else w
def BadW (d : PyData) : Prop := d ≠ .none ∧ Jv.wholeD d (.int 1) .non = false
theorem WordsOf.pos {d : PyData} {L m : Nat} (h : WordsOf d L m) : 1 ≤ m ∧ m ≤ L + 1 := by
  rcases h with ⟨_, rfl⟩ | ⟨w, _, h1, h2⟩
  · omega
  · split at h2 <;> omega
/-- what told_split and told_within answer -/
def Asked (K : PySem.W.Frag) (T : Tx) (H : Hp) (vl ve vw vd : V) (E : XK) (good : List Int → Prop) : Prop :=
  ∃ dl de dw dd, Jv.Dv K H vl dl ∧ Jv.Dw K H ve de ∧ Jv.Dv K H vw dw ∧ Jv.Dv K H vd dd ∧
    ((Jv.wholeD dl (.int 0) (.int 30) = false ∧ ∀ H', Same H H' → E (.ref T.C_BadLadder) none H') ∨ ∃ L : Nat, dl = .int L ∧ L ≤ 30 ∧
      ((BadE de L ∧ ∀ H', Same H H' → E (.ref T.C_BadEnds) none H') ∨ ∃ A, EndsOf de L A ∧
        ((BadW dw ∧ ∀ H', Same H H' → E (.ref T.C_BadWords) none H') ∨ ∃ m, WordsOf dw L m ∧
          ((Jv.wholeD dd (.int 0) (.int L) = false ∧ ∀ H', Same H H' → E (.ref T.C_BadEnd) none H') ∨ ∃ st : Nat, dd = .int st ∧ st ≤ L ∧ good (due A (m - 1) st)))))
def sp_check_ladder (K : PySem.W.Frag) (C : Addr) : Sp := fun vs H Q E => ∃ x d m, vs = [x, .int m] ∧ Jv.Dv K H x d ∧
  ((Jv.wholeD d (.int 0) (.int m) = true ∧ Q x H) ∨ (Jv.wholeD d (.int 0) (.int m) = false ∧ ∀ H', Same H H' → E (.ref C) none H'))
def sp_told_count (K : PySem.W.Frag) : Sp := fun vs H Q E => ∃ n : Nat, vs = [.int n] ∧ n ≤ 200 ∧ ∀ H', Same H H' → Q (.int (tc n)) H'
def sp_is_sequence (K : PySem.W.Frag) : Sp := fun vs H Q _ => ∃ x d, vs = [x] ∧ Jv.Dw K H x d ∧ ∀ H', Same H H' → Q (.bl (Jv.seqD d).isSome) H'
def sp_allowed_ends (K : PySem.W.Frag) (C : Addr) : Sp := fun vs H Q E => ∃ (L : Nat) (x : V) (d : PyData), vs = [.int L, x] ∧ L ≤ 30 ∧ Jv.Dw K H x d ∧
  ((BadE d L ∧ ∀ H', Same H H' → E (.ref C) none H') ∨ ∃ A, EndsOf d L A ∧ ∀ a H', Same H H' → H a = none → H' a = some (.lst (A.map fun b => V.int (own b))) → Q (.ref a) H')
def sp_words_left (K : PySem.W.Frag) (C : Addr) : Sp := fun vs H Q E => ∃ (L : Nat) (x : V) (d : PyData), vs = [.int L, x] ∧ L ≤ 30 ∧ Jv.Dv K H x d ∧
  ((BadW d ∧ ∀ H', Same H H' → E (.ref C) none H') ∨ ∃ m, WordsOf d L m ∧ Q (.int (m : Nat)) H)
theorem whole_yes {n m : Nat} (h : n ≤ m) : Jv.wholeD (.int n) (.int 0) (.int m) = true := by
  simp [Jv.wholeD, Jv.loOk, Jv.hiOk]; omega
theorem whole_at {L : Nat} {z : Int} (h : 0 ≤ z ∧ z ≤ L) : Jv.wholeD (.int z) (.int 0) (.int L) = true := by
  simp [Jv.wholeD, Jv.loOk, Jv.hiOk]; omega
section
variable {P : Program} {w : World} {K : PySem.W.Frag} {mg : Str → Option Value} {base : Heap}
theorem ok_is_whole (T : Tx) (O : Ok K mg T) : FnOk P w K mg base CX0 1 T.f_is_whole T.d_is_whole ["thing", "low", "high"] (fun vs H Q _ => ∃ x d lo hi, vs = [x, lo, hi] ∧ Jv.Dv K H x d ∧ Jv.Bd lo ∧ Jv.Bd hi ∧ Q (.bl (Jv.wholeV x lo hi)) H) := by
  refine O.F_is_whole.ok sc_is_whole (fun vs H Q E h => by obtain ⟨_, _, _, _, rfl, _⟩ := h; rfl) (fun cdv A outer s H vs Q E hr h => ?_)
  obtain ⟨x, d, lo, hi, rfl, hx, hlo, hhi, q⟩ := h
  refine ⟨_, (pss_cons (ps_if (PW.pt (pw_or (pt_val (pe_callB (r := rIsi K) call_isi (by rfl) O.z_isinstance (by decide +kernel) (pa_cons (pv 0) (pa_cons (pe_bltn (v := .ty "bool") (by rfl) O.z_bool (by decide +kernel) rfl) pa_nil)))) (pw_or1 (pt_not (pt_val (pe_callB (r := rIsi K) call_isi (by rfl) O.z_isinstance (by decide +kernel) (pa_cons (pv 0) (pa_cons (pe_bltn (v := .ty "int") (by rfl) O.z_int (by decide +kernel) rfl) pa_nil)))))))) (pss_one (ps_ret pe_bl)) pss_nil)
  (pss_cons (ps_if (PW.pt (pw_and (pt_cmpR op_notN (pv 1) pe_non (nomark _)) (pw_and1 (pt_cmpR op_lt (pv 0) (pv 1) (nomark _))))) (pss_one (ps_ret pe_bl)) pss_nil)
  (pss_one (ps_ret (pe_or (pe_cmpR op_isN (pv 2) pe_non (nomark _)) (pe_one (pe_cmpR op_le (pv 0) (pv 2) (nomark _)))))))), ?_⟩
  walk_at "r"
  have hx2 := hx
  cases hx2 with
  | int i =>
    rcases hlo with rfl | ⟨a, rfl⟩
    · rcases hhi with rfl | ⟨b, rfl⟩ <;> walk_at "r" <;> exact q
    · by_cases h : i < a
      · rw [Jv.wholeV_lo0 h] at q
        walk_at "rr" <;> exact q
      · rw [Jv.wholeV_lo1 h] at q
        rcases hhi with rfl | ⟨b, rfl⟩ <;> walk_at "rr" <;> exact q
  | _ => walk_at "r"; exact q
theorem ok_is_sequence (T : Tx) (O : Ok K mg T) : FnOk P w K mg base CX0 1 T.f_is_sequence T.d_is_sequence ["thing"] (sp_is_sequence K) := by
  refine O.F_is_sequence.ok sc_is_sequence (fun vs H Q E h => by obtain ⟨_, _, rfl, _⟩ := h; rfl) (fun cdv A outer s H vs Q E hr h => ?_)
  obtain ⟨x, d, rfl, hx, q⟩ := h
  refine ⟨_, (pss_one (ps_ret (pe_callB (r := rIsiT K) call_isiT (by rfl) O.z_isinstance (by decide +kernel) (pa_cons (pv 0) (pa_cons (pe_tup (pa_cons (pe_bltn (v := .ty "list") (by rfl) O.z_list (by decide +kernel) rfl) (pa_cons (pe_bltn (v := .ty "tuple") (by rfl) O.z_tuple (by decide +kernel) rfl) pa_nil))) pa_nil))))), ?_⟩
  walk_at "r"
  intro p hp
  refine Jv.w_isS upd_same (hx.same (Jv.same_new hp)) ?_
  exact q _ (Jv.same_new hp)
theorem ok_check_ladder (T : Tx) (O : Ok K mg T) : FnOk P w K mg base (L2.CX P w) 2 T.f_check_ladder T.d_check_ladder ["ladder", "most"] (sp_check_ladder K T.C_BadLadder) := by
  refine FunD.ok O.F_check_ladder sc_check_ladder (fun vs H Q E h => by obtain ⟨_, _, _, rfl, _⟩ := h; rfl) (fun cdv A outer s H vs Q E hr h => ?_)
  obtain ⟨x, d, m, rfl, hx, qq⟩ := h
  refine ⟨_, (pss_cons (ps_if (pt_not (pt_val (pe_call (ok_is_whole T O) (hr.mono (by decide)) (by rfl) O.m_is_whole O.F_is_whole.kp O.b_is_whole .nil pass0 (pa_cons (pv 0) (pa_cons pe_int (pa_cons (pv 1) pa_nil)))))) (pss_one (ps_raise rfl (takes_of rfl rfl rfl rfl) (Jv.pmk_own0 PySem.F.excBase_ValueError O.e_BadLadder.x O.m_BadLadder O.e_BadLadder.k (O.e_BadLadder.raises) (by rfl)))) pss_nil)
  (pss_one (ps_ret (pv 0)))), ?_⟩
  walk_at "r"
  refine ⟨x, d, .int 0, .int m, rfl, hx, .inr ⟨_, rfl⟩, .inr ⟨_, rfl⟩, ?_⟩
  rw [hx.whole]
  rcases qq with ⟨e, k⟩ | ⟨e, k⟩
  · rw [e]
    walk_at "r"
    exact k
  · rw [e]
    walk_at "r"
    exact k _ (Same.refl _)
theorem ok_told_count (T : Tx) (O : Ok K mg T) : FnOk P w K mg base (L2.CX P w) 3 T.f_told_count T.d_told_count ["ladder"] (sp_told_count K) := by
  refine O.F_told_count.okX sc_told_count (fun vs H Q E h => by obtain ⟨_, rfl, _⟩ := h; rfl) (fun cdv A outer s H vs Q E hr h => ?_)
  obtain ⟨n, rfl, hn, k⟩ := h
  refine ⟨_, (pss_cons (ps_expr (pe_callS (ok_check_ladder T O) (hr.mono (by decide)) (by rfl) O.m_check_ladder O.F_check_ladder.kp O.b_check_ladder (fun σ => passAt (takes_of rfl rfl rfl rfl) σ) (pa_cons (pv 0) (pa_cons (pe_glob (v := .int (200)) (by rfl) O.c_COUNT_LADDER_MOST ⟨_, rfl⟩) pa_nil))))
  (pss_cons (ps_asg (pe_tup (pa_cons pe_int (pa_cons pe_int pa_nil))) (pg_tup rfl (pgs_cons (pg_name (i := 1) sc_told_count.nd rfl (Or.inl rfl)) (pgs_cons (pg_name (i := 2) sc_told_count.nd rfl (Or.inl rfl)) pgs_nil))))
  (pss_cons (ps_for (passes_of rfl) rfl (pi_range1 (by rfl) O.z_range (pa_cons (pv 0) pa_nil)) (pg_name (i := 3) sc_told_count.nd rfl (Or.inl rfl)) (pss_one (ps_par (i := 1) (j := 2) rfl sc_told_count.nd rfl rfl (by decide) rfl rfl (pa_cons (pv 2) (pa_cons (pe_op op_add (pv 1) (pv 2)) pa_nil)) rfl)))
  (pss_one (ps_ret (pv 1)))))), ?_⟩
  walk_at "r"
  refine ⟨_, .int n, 200, rfl, .int _, .inl ⟨whole_yes hn, ?_⟩⟩
  walk_at "r"
  intro p hp
  refine Jv.r_gtup (Jv.sqT_at upd_same) rfl ?_
  walk_at "r"
  refine ⟨(n : Int), rfl, by omega, by omega, ?_⟩
  refine for_range (lo := 0) (n := ((n : Int)).toNat) (fun i σ H1 => ∃ y3, σ = [some (.int n), some (.int (fibP i).1), some (.int (fibP i).2), y3] ∧ Same H H1) ⟨_, rfl, Jv.same_new hp⟩ ?_ ?_
  · rintro i σ H1 hi ⟨y3, rfl, s1⟩
    walk_at "r"
    unfold tPar
    walk_at "r"
    exact ⟨_, _, rfl, _, rfl, s1⟩
  · rintro σ H1 ⟨y3, rfl, s1⟩
    walk_at "r"
    exact k _ s1
theorem ok_words_left (T : Tx) (O : Ok K mg T) : FnOk P w K mg base (L2.CX P w) 2 T.f_words_left T.d_words_left ["ladder", "words"] (sp_words_left K T.C_BadWords) := by
  refine O.F_words_left.okX sc_words_left (fun vs H Q E h => by obtain ⟨_, _, _, rfl, _⟩ := h; rfl) (fun cdv A outer s H vs Q E hr h => ?_)
  obtain ⟨L, x, d, rfl, hL, hx, qq⟩ := h
  refine ⟨_, (pss_cons (ps_if (PW.pt (pw_and (pt_cmpR op_notN (pv 1) pe_non (nomark _)) (pw_and1 (pt_not (pt_val (pe_call (ok_is_whole T O) (hr.mono (by decide)) (by rfl) O.m_is_whole O.F_is_whole.kp O.b1_is_whole.2 O.b1_is_whole.1 pass0 (pa_cons (pv 1) (pa_cons pe_int pa_nil)))))))) (pss_one (ps_raise rfl (takes_of rfl rfl rfl rfl) (Jv.pmk_own0 PySem.F.excBase_ValueError O.e_BadWords.x O.m_BadWords O.e_BadWords.k (O.e_BadWords.raises) (by rfl)))) pss_nil)
  (pss_one (ps_ret (pe_ifExp (pt_cmpR op_isN (pv 1) pe_non (nomark _)) (pe_op op_add (pv 0) pe_int) (pe_callB (r := Jv.rMin2) (call_min2 rfl) (by rfl) O.z_min (by decide +kernel) (pa_cons (pv 1) (pa_cons (pe_op op_add (pv 0) pe_int) pa_nil))))))), ?_⟩
  walk_at "r"
  rcases qq with ⟨⟨nn, e⟩, k⟩ | ⟨m, hm, k⟩
  · have nx : x ≠ .non := fun z => by subst z; cases hx; exact nn rfl
    rw [decide_eq_false nx]
    walk_at "r"
    refine ⟨x, d, .int 1, .non, rfl, hx, .inr ⟨_, rfl⟩, .inl rfl, ?_⟩
    rw [hx.whole, e]
    walk_at "r"
    exact k _ (Same.refl _)
  · rcases hm with ⟨rfl, rfl⟩ | ⟨z, rfl, h1, h2⟩
    · cases hx
      walk_at "r"
      exact k
    · cases hx
      walk_at "r"
      refine ⟨_, _, .int 1, .non, rfl, .int z, .inr ⟨_, rfl⟩, .inl rfl, ?_⟩
      rw [(Jv.Dv.int z : Jv.Dv K H _ _).whole, show Jv.wholeD (.int z) (.int 1) .non = true by simp [Jv.wholeD, Jv.loOk, Jv.hiOk, h1]]
      walk_at "r"
      rw [← h2]
      exact k
theorem ok_allowed_ends (T : Tx) (O : Ok K mg T) : FnOk P w K mg base (L2.CX P w) 2 T.f_allowed_ends T.d_allowed_ends ["ladder", "ends"] (sp_allowed_ends K T.C_BadEnds) := by
  refine O.F_allowed_ends.okX sc_allowed_ends (fun vs H Q E h => by obtain ⟨_, _, _, rfl, _⟩ := h; rfl) (fun cdv A outer s H vs Q E hr h => ?_)
  obtain ⟨L, x, d, rfl, hL, hx, qq⟩ := h
  refine ⟨_, (pss_cons (ps_if (pt_cmpR op_isN (pv 1) pe_non (nomark _)) (pss_one (ps_ret (pe_op op_rep (pe_lst (pa_cons pe_int pa_nil)) (pe_op op_add (pv 0) pe_int)))) pss_nil)
  (pss_cons (ps_if (PW.pt (pw_or (pt_not (pt_val (pe_call (ok_is_sequence T O) (hr.mono (by decide)) (by rfl) O.m_is_sequence O.F_is_sequence.kp O.b_is_sequence .nil pass0 (pa_cons (pv 1) pa_nil)))) (pw_or1 (pt_not (pt_val (pe_callB (r := rAll K) (cr_all rfl) (by rfl) O.z_all (by decide +kernel) (pa_cons (pe_lc (own := [("end", 2)]) (by rfl) sc_allowed_ends.nd (Jv.piOr (show PI _ _ _ (iList K _) from pi_list (pv 1)) (show PI _ _ _ (iTup K _) from pi_tup (pv 1))) (blkOk_by (own := [("end", 2)]) (N := ["ladder", "ends", "end"]) (sc := defScope s_allowed_ends) (scope := ({ kind := .function, names := [(".0", .local), ("end", .local), ("is_whole", .globalImplicit), ("ladder", .free)], isGenerator := false, isCoroutine := false } : Scope)) (by decide +kernel)) (fun _ _ _ _ _ => (pg_name (i := 2) sc_allowed_ends.nd rfl (Or.inl rfl))) (fun _ _ _ _ _ => pts_nil) (fun _ _ _ _ _ => (pe_call (ok_is_whole T O) (hr.mono (by decide)) (by rfl) O.m_is_whole O.F_is_whole.kp O.b_is_whole .nil pass0 (pa_cons (pv 2) (pa_cons pe_int (pa_cons (pv 0) pa_nil)))))) pa_nil))))))) (pss_one (ps_raise rfl (takes_of rfl rfl rfl rfl) (Jv.pmk_own0 PySem.F.excBase_ValueError O.e_BadEnds.x O.m_BadEnds O.e_BadEnds.k (O.e_BadEnds.raises) (by rfl)))) pss_nil)
  (pss_one (ps_ret (pe_lc (own := [("end", 2)]) (by rfl) sc_allowed_ends.nd (pi_range1 (by rfl) O.z_range (pa_cons (pe_op op_add (pv 0) pe_int) pa_nil)) (blkOk_by (own := [("end", 2)]) (N := ["ladder", "ends", "end"]) (sc := defScope s_allowed_ends) (scope := ({ kind := .function, names := [(".0", .local), ("end", .local), ("ends", .free)], isGenerator := false, isCoroutine := false } : Scope)) (by decide +kernel)) (fun _ _ _ _ _ => (pg_name (i := 2) sc_allowed_ends.nd rfl (Or.inl rfl))) (fun _ _ _ _ _ => pts_nil) (fun _ _ _ _ _ => (pe_ifExp (pt_cmpR (r := rIn K false) op_in_seq (pv 2) (pv 1) rfl) pe_int pe_int))))))), ?_⟩
  walk_at "r"
  by_cases nn : d = .none
  · subst nn
    rcases qq with ⟨⟨z, _⟩, _⟩ | ⟨A, hA, k⟩
    · exact absurd rfl z
    · have ex : x = .non := by
        cases hx with
        | dv h => cases h; rfl
      subst ex
      rcases hA with ⟨_, rfl⟩ | ⟨ns, z, _⟩
      · walk_at "r"
        intro p hp
        walk_at "r"
        refine ⟨p, _, _, rfl, rfl, upd_same, by omega, by omega, Jv.small_of (by simp; omega), fun p2 hp2 => ?_⟩
        refine k p2 _ ((Jv.same_new hp).trans (Jv.same_new hp2)) (Same.free (Jv.same_new hp) hp2) ?_
        rw [upd_same]
        congr 2
        rw [List.map_replicate, show ((L : Int) + 1).toNat = L + 1 by omega]
        induction (L + 1) with
        | zero => rfl
        | succ n ih => rw [List.replicate_succ, List.flatten_cons, ih, List.replicate_succ]; rfl
      · cases z
  · have nx : x ≠ .non := fun z => by
      subst z
      cases hx with
      | dv h => cases h; exact nn rfl
    rw [decide_eq_false nx]
    walk_at "r"
    refine ⟨x, d, rfl, hx, fun H1 s1 => ?_⟩
    have hx1 := hx.same s1
    cases e : Jv.seqD d with
    | none =>
      walk_at "r"
      rcases qq with ⟨_, k⟩ | ⟨A, hA, k⟩
      · exact k _ s1
      · rcases hA with ⟨z, _⟩ | ⟨ns, z, _⟩
        · exact absurd z nn
        · rw [e] at z; cases z
    | some ds =>
      obtain ⟨xs, sk, al⟩ := (hx1.seq e).sk e
      have len := al.len
      have few : ds.length ≤ 200 := by
        rcases qq with ⟨⟨_, b⟩, k⟩ | ⟨A, ⟨z, _⟩ | ⟨ns, z, _, h2, _⟩, k⟩
        · exact (b ds e).1
        · exact absurd z nn
        · rw [e] at z; cases z; simpa using h2
      walk_at "r"
      refine Jv.lcK (K := K) (i := 1) (j := 2) (by rfl) sk (fun v => .bl (Jv.wholeV v (.int 0) (.int L))) (by omega) (fun v H2 hv s2 PP hP => ?_) (fun D H2 s2 hD eD => ?_)
      · obtain ⟨dd, _, hd⟩ := al.mem hv
        walk_at "r"
        exact ⟨v, dd, .int 0, .int L, rfl, hd.same s2, .inr ⟨_, rfl⟩, .inr ⟨_, rfl⟩, hP _ (Same.refl _)⟩
      · walk_at "r"
        refine ⟨D, xs.map fun v => Jv.wholeV v (.int 0) (.int L), rfl, Jv.sqL_at (by rw [eD, List.map_map]; rfl), ?_⟩
        have ea : (xs.map fun v => Jv.wholeV v (.int 0) (.int L)).all id = ds.all fun e => Jv.wholeD e (.int 0) (.int L) := by
          rw [List.all_map]
          exact al.all fun v d h => h.whole
        rw [ea]
        rcases qq with ⟨⟨_, b⟩, k⟩ | ⟨A, ⟨z, _⟩ | ⟨ns, z, h1, h2, rfl⟩, k⟩
        · rw [(b ds e).2]
          walk_at "r"
          exact k _ (s1.trans s2)
        · exact absurd z nn
        · rw [e] at z; cases z
          rw [show ((ns.map PyData.int).all fun e => Jv.wholeD e (.int 0) (.int L)) = true by
            rw [List.all_map, List.all_eq_true]; exact fun z hz => whole_at (h1 z hz)]
          walk_at "r"
          obtain rfl := Jv.dv_intsV al
          have sk2 := sk.same s2
          refine Jv.lcFn (n := L + 1) (fun PP hP => by walk_at "r"; exact hP) (by omega) (fun i => V.int (own (decide ((i : Int) ∈ ns)))) (by omega) (fun i H3 hi s3 PP hP => ?_) (fun D2 H3 s3 hD2 e3 => ?_)
          · walk_at "r"
            refine Jv.r_in (sk2.same s3) ?_
            walk_at "r"
            have hP := hP _ (Same.refl _)
            unfold own at hP
            by_cases hm : (i : Int) ∈ ns
            · simp only [hm, decide_true, if_true] at hP ⊢
              walk_at "r"
              exact hP
            · simp only [hm, decide_false] at hP ⊢
              walk_at "r"
              exact hP
          · walk_at "r"
            refine k D2 H3 ((s1.trans s2).trans s3) (Same.free (s1.trans s2) hD2) ?_
            rw [e3, List.map_map]; rfl
end
end K39

namespace K39
open PySem PySem.Spec PyProof.Rows L2
/-! ### counts by words -/
def bV (A : List Bool) : List V := A.map fun b => V.int (own b)
def iD (xs : List Int) : PyData := .list (xs.map PyData.int)
def lvD (A : List Bool) (n : Nat) : PyData := .tuple [iD (lv (tT n) A), iD (lv (tS n) A)]
def sp_counts (K : PySem.W.Frag) : Sp := fun vs H Q _ => ∃ (a : Addr) (A : List Bool) (m : Nat), vs = [.ref a, .int m] ∧ H a = some (.lst (bV A)) ∧ m ≤ 31 ∧ A.length ≤ 31 ∧
  ∀ D H', Same H H' → Jv.Dv K H' (.ref D) (.list ((List.range (m + 1)).map (lvD A))) → Q (.ref D) H'
theorem bV_at {A : List Bool} {i : Nat} {v : V} (h : (bV A)[i]? = some v) : i < A.length ∧ v = .int (own (A.getD i false)) := by
  unfold bV at h
  rw [List.getElem?_map] at h
  by_cases hi : i < A.length
  · rw [List.getElem?_eq_getElem hi] at h
    refine ⟨hi, ?_⟩
    rw [List.getD_eq_getElem?_getD, List.getElem?_eq_getElem hi]
    exact (Option.some.inj h).symm
  · rw [List.getElem?_eq_none (by omega)] at h; cases h
theorem bV_get {A : List Bool} {i : Nat} (h : i < A.length) : (bV A)[i]? = some (.int (own (A.getD i false))) := by
  unfold bV
  rw [List.getElem?_map, List.getD_eq_getElem?_getD, List.getElem?_eq_getElem h]; rfl
theorem bV_len {A : List Bool} : (bV A).length = A.length := by unfold bV; simp
theorem iD_at {K : PySem.W.Frag} {H : Hp} {v : V} {ns : List Int} (h : Jv.Dv K H v (iD ns)) : ∃ b, v = .ref b ∧ H b = some (.lst (ns.map V.int)) := by
  unfold iD at h
  cases h with
  | lst h al => exact ⟨_, rfl, by rw [← Jv.dv_intsV al]; exact h⟩
theorem iD_of {K : PySem.W.Frag} {H : Hp} {b : Addr} {ns : List Int} (h : H b = some (.lst (ns.map V.int))) : Jv.Dv K H (.ref b) (iD ns) := .lst h (Jv.dv_ints ns)
theorem lvD_at {K : PySem.W.Frag} {H : Hp} {v : V} {A : List Bool} {n : Nat} (h : Jv.Dv K H v (lvD A n)) : ∃ t b c, v = .ref t ∧ SqT K H t [.ref b, .ref c] ∧ H b = some (.lst ((lv (tT n) A).map V.int)) ∧ H c = some (.lst ((lv (tS n) A).map V.int)) := by
  unfold lvD at h
  cases h with
  | tup h al =>
    cases al with
    | cons a1 al =>
      cases al with
      | cons a2 al =>
        cases al
        obtain ⟨b, rfl, h1⟩ := iD_at a1
        obtain ⟨c, rfl, h2⟩ := iD_at a2
        exact ⟨_, b, c, rfl, h, h1, h2⟩
theorem atI_neg {xs : List V} {k : Nat} {v : V} (h1 : 1 ≤ k) (h2 : k ≤ xs.length) (h : xs[xs.length - k]? = some v) : atI xs (-(k : Int)) = some v := by
  unfold atI ixN
  rw [if_neg (by omega)]
  rw [if_pos (by omega)]
  show xs[_]? = some v
  rw [← h]
  congr 1
  omega
theorem getD_drop {A : List Bool} {i : Nat} (h : i < A.length) : A.drop i = A.getD i false :: A.drop (i + 1) := by
  rw [List.drop_eq_getElem_cons h, List.getD_eq_getElem?_getD, List.getElem?_eq_getElem h]; rfl
theorem lv_map {f : List Bool → Int} {A : List Bool} : lv f A = (List.range A.length).map fun i => f (A.drop i) := by
  refine List.ext_getElem? fun i => ?_
  by_cases h : i < A.length
  · rw [lv_at h, List.getElem?_map, List.getElem?_range h]; rfl
  · rw [List.getElem?_eq_none (by rw [lv_len]; omega), List.getElem?_eq_none (by simp; omega)]
theorem rep_flat {n : Nat} {x : V} : (List.replicate n [x]).flatten = List.replicate n x := by
  induction n with
  | zero => rfl
  | succ n ih => rw [List.replicate_succ, List.flatten_cons, ih, List.replicate_succ]; rfl
theorem lv0 : ∀ {A : List Bool}, lv (tT 0) A = List.replicate A.length 0
  | [] => rfl
  | b :: bs => by
    show 0 :: lv (tT 0) bs = _
    rw [lv0, List.length_cons, List.replicate_succ]
section
variable {P : Program} {w : World} {K : PySem.W.Frag} {mg : Str → Option Value} {base : Heap}
theorem ok_counts_by_words (T : Tx) (O : Ok K mg T) : FnOk P w K mg base CX0 1 T.f_counts_by_words T.d_counts_by_words ["allowed", "words"] (sp_counts K) := by
  refine O.F_counts_by_words.ok sc_counts_by_words (fun vs H Q E h => by obtain ⟨_, _, _, rfl, _⟩ := h; rfl) (fun cdv A0 outer s H vs Q E hr h => ?_)
  obtain ⟨a, A, m, rfl, ha, hm, few, q⟩ := h
  refine ⟨_, (pss_cons (ps_set (i := 2) sc_counts_by_words.nd rfl (Or.inl rfl) (pe_op op_rep (pe_lst (pa_cons pe_int pa_nil)) (pe_callB (r := Jv.rLenK K) Jv.cr_len (by rfl) O.z_len (by decide +kernel) (pa_cons (pv 0) pa_nil))))
  (pss_cons (ps_set (i := 3) sc_counts_by_words.nd rfl (Or.inl rfl) (pe_lst (pa_cons (pe_tup (pa_cons (pv 2) (pa_cons (pv 2) pa_nil))) pa_nil)))
  (pss_cons (ps_for PassesOwn.never rfl (pi_range1 (by rfl) O.z_range (pa_cons (pv 1) pa_nil)) (pg_name (i := 4) sc_counts_by_words.nd rfl (Or.inl rfl)) (pss_cons (ps_asg (pe_ix (r := rIxL K) ix_list (pv 3) (pe_un un_neg pe_int) (fun _ _ => rfl)) (pg_tup rfl (pgs_cons (pg_name (i := 5) sc_counts_by_words.nd rfl (Or.inr rfl)) (pgs_cons (pg_name (i := 6) sc_counts_by_words.nd rfl (Or.inr rfl)) pgs_nil))))
  (pss_cons (ps_setLc (i := 7) (own := [("end", 9), ("let", 10)]) (by rfl) sc_counts_by_words.nd rfl rfl (sw_true rfl rfl rfl (by decide +kernel)) (show PI _ _ _ (iEnum K _) from pi_enum (by rfl) O.z_enumerate (pa_cons (pv 0) pa_nil)) (blkOk_by (own := [("end", 9), ("let", 10)]) (N := ["allowed", "words", "nobody", "found", "_", "told", "asked", "speaking", "waiting", "end", "let"]) (sc := defScope s_counts_by_words) (scope := ({ kind := .function, names := [(".0", .local), ("end", .local), ("let", .local), ("sum", .globalImplicit), ("asked", .free)], isGenerator := false, isCoroutine := false } : Scope)) (by decide +kernel)) (fun _ _ _ _ _ => (show PG _ _ (gTup K 2 _) from pg_tup rfl (pgs_cons (pg_name (i := 9) sc_counts_by_words.nd rfl (Or.inl rfl) (Or.inr rfl)) (pgs_cons (pg_name (i := 10) sc_counts_by_words.nd rfl (Or.inl rfl) (Or.inr rfl)) pgs_nil)))) (fun _ _ _ _ _ => pts_nil) (fun _ _ _ _ _ => (pe_op op_add (pv 10) (pe_callB (r := rSum K) (cr_sum rfl) (by rfl) O.z_sum (by decide +kernel) (pa_cons (pe_slice (r := rSlL K) sl_list (pv 6) (po_some (pe_op op_add (pv 9) pe_int)) po_none) pa_nil)))))
  (pss_cons (ps_setLc (i := 8) (own := [("end", 9), ("let", 10)]) (by rfl) sc_counts_by_words.nd rfl rfl (sw_true rfl rfl rfl (by decide +kernel)) (show PI _ _ _ (iEnum K _) from pi_enum (by rfl) O.z_enumerate (pa_cons (pv 0) pa_nil)) (blkOk_by (own := [("end", 9), ("let", 10)]) (N := ["allowed", "words", "nobody", "found", "_", "told", "asked", "speaking", "waiting", "end", "let"]) (sc := defScope s_counts_by_words) (scope := ({ kind := .function, names := [(".0", .local), ("end", .local), ("let", .local), ("max", .globalImplicit), ("told", .free)], isGenerator := false, isCoroutine := false } : Scope)) (by decide +kernel)) (fun _ _ _ _ _ => (show PG _ _ (gTup K 2 _) from pg_tup rfl (pgs_cons (pg_name (i := 9) sc_counts_by_words.nd rfl (Or.inl rfl) (Or.inr rfl)) (pgs_cons (pg_name (i := 10) sc_counts_by_words.nd rfl (Or.inl rfl) (Or.inr rfl)) pgs_nil)))) (fun _ _ _ _ _ => pts_nil) (fun _ _ _ _ _ => (pe_callB (r := rMax K) (cr_max rfl) (by rfl) O.z_max (by decide +kernel) (pa_cons (pe_op op_cat (pe_lst (pa_cons (pv 10) pa_nil)) (pe_slice (r := rSlL K) sl_list (pv 5) (po_some (pe_op op_add (pv 9) pe_int)) po_none)) pa_nil))))
  (pss_one (ps_expr (show PE _ _ (tBM K _ _ _ _) from pe_bm PySem.F.plainAttrs_list PySem.F.slot_list_append PySem.F.type_list_append mt_append (pv 3) (pa_cons (pe_tup (pa_cons (pv 7) (pa_cons (pv 8) pa_nil))) pa_nil))))))))
  (pss_one (ps_ret (pv 3)))))), ?_⟩
  have few2 : (bV A).length ≤ 31 := by rw [bV_len]; exact few
  walk_at "r"
  intro p hp
  walk_at "r"
  refine ⟨p, _, _, rfl, rfl, upd_same, by omega, by omega, Jv.small_of (by simp; omega), fun p2 hp2 => ?_⟩
  have s1 := (Jv.same_new (u := .lst [.int 0]) hp).trans (Jv.same_new (u := .lst (List.replicate ((bV A).length : Int).toNat [V.int 0]).flatten) hp2)
  have e1 : upd (upd H p (.lst [.int 0])) p2 (.lst (List.replicate ((bV A).length : Int).toNat [V.int 0]).flatten) p2 = some (.lst ((lv (tT 0) A).map V.int)) := by
    rw [upd_same, Int.toNat_natCast, bV_len]
    rw [lv0, List.map_replicate, rep_flat]
  generalize upd (upd H p (.lst [.int 0])) p2 (.lst (List.replicate ((bV A).length : Int).toNat [V.int 0]).flatten) = H1 at s1 e1 ⊢
  clear hp hp2
  walk_at "r"
  intro t ht
  have s2 := Jv.same_new (u := .tup [.ref p2, .ref p2]) ht
  walk_at "r"
  intro D hD
  have e0 : lv (tT 0) A = lv (tS 0) A := rfl
  have d0 : Jv.Dv K (upd H1 t (.tup [.ref p2, .ref p2])) (.ref t) (lvD A 0) := .tup (Jv.sqT_at upd_same) (.cons (iD_of (s2 _ _ e1)) (.cons (iD_of (s2 _ _ (by rw [← e0]; exact e1))) .nil))
  have nDH : H D = none := Same.free (s1.trans s2) hD
  walk_at "r"
  refine ⟨m, rfl, by omega, by omega, ?_⟩
  refine for_range (lo := 0) (n := ((m : Nat) : Int).toNat) (fun i σ H' => ∃ y4 y5 y6 y7 y8 vs, σ = [some (.ref a), some (.int m), some (.ref p2), some (.ref D), y4, y5, y6, y7, y8, none, none] ∧ Same H H' ∧ H' D = some (.lst vs) ∧ Jv.DvAll K (Jv.hide [D] H') vs ((List.range (i + 1)).map (lvD A)))
    ⟨_, _, _, _, _, _, rfl, (s1.trans s2).trans (Jv.same_new hD), upd_same, .cons (d0.same (Jv.hide_nil (H := upd H1 t (.tup [.ref p2, .ref p2])) ▸ Jv.hide_more (Jv.same_new hD) hD)) .nil⟩ ?_ ?_
  · rintro i σ H2 hi ⟨y4, y5, y6, y7, y8, vs, rfl, s3, e3, al⟩
    have len := al.len
    rw [List.length_map, List.length_range] at len
    obtain ⟨v, hv, dv⟩ := al.of (i := i) (d := lvD A i) (by rw [List.getElem?_map, List.getElem?_range (by omega)]; rfl)
    walk_at "r"
    refine Jv.r_ixL (Jv.sqL_at e3) (show atI _ (-1) = _ from atI_neg (k := 1) (by omega) (by omega) (by rw [len]; exact hv)) ?_
    obtain ⟨t2, b, c, rfl, ht2, hb, hc⟩ := lvD_at dv
    have ht3 := Jv.Same.sqT Jv.hide_le ht2
    have hb3 := Jv.hide_le _ _ hb
    have hc3 := Jv.hide_le _ _ hc
    refine Jv.r_gtup ht3 rfl ?_
    walk_at "r"
    refine Jv.lcEnN (xs := bV A) (fun PP hP => by walk_at "r"; exact hP) (Jv.sqL_at (s3 _ _ ha)) (fun k => .int (tT (i + 1) (A.drop k))) (by omega) (fun _ _ => rfl) (fun k v H3 hv s4 PP hP => ?_) (fun D3 H3 s4 hD3 e4 => ?_)
    · obtain ⟨hk, rfl⟩ := bV_at hv
      walk_at "r"
      refine Jv.r_tSl ?_
      walk_at "r"
      refine Jv.r_part ?_
      walk_at "r"
      refine Jv.r_partI (Jv.r_noPart ?_)
      refine Jv.r_slL (s4 _ _ hc3) fun p5 H5 hp5 s5 e5 => ?_
      rw [Jv.cut_drop (by omega) (by rw [List.length_map, lv_len]; omega), show ((k : Nat) + 1 : Int).toNat = k + 1 by omega, ← List.map_drop, lv_drop] at e5
      walk_at "r"
      refine ⟨p5, _, rfl, Jv.sqL_at e5, ?_⟩
      walk_at "r"
      have := hP _ s5
      rw [getD_drop hk, T_cons] at this
      exact this
    · walk_at "r"
      refine Jv.lcEnN (xs := bV A) (fun PP hP => by walk_at "r"; exact hP) (Jv.sqL_at (s4 _ _ (s3 _ _ ha))) (fun k => .int (tS (i + 1) (A.drop k))) (by omega) (fun _ _ => rfl) (fun k v H4 hv s5 PP hP => ?_) (fun D4 H4 s5 hD4 e5 => ?_)
      · obtain ⟨hk, rfl⟩ := bV_at hv
        walk_at "r"
        intro p6 hp6
        have s6 := Jv.same_new (u := .lst [.int (own (A.getD k false))]) hp6
        refine Jv.r_tSl ?_
        walk_at "r"
        refine Jv.r_part ?_
        walk_at "r"
        refine Jv.r_partI (Jv.r_noPart ?_)
        refine Jv.r_slL (s6 _ _ (s5 _ _ (s4 _ _ hb3))) fun p7 H7 hp7 s7 e7 => ?_
        rw [Jv.cut_drop (by omega) (by rw [List.length_map, lv_len]; omega), show ((k : Nat) + 1 : Int).toNat = k + 1 by omega, ← List.map_drop, lv_drop] at e7
        refine Jv.r_cat (s7 _ _ upd_same) e7 (by simp [lv_len]; omega) fun p8 H8 hp8 s8 e8 => ?_
        walk_at "r"
        refine ⟨p8, own (A.getD k false) :: lv (tT i) (A.drop (k + 1)), rfl, Jv.sqL_at e8, by simp, fun mm h1 h2 => ?_⟩
        have := hP _ ((s6.trans s7).trans s8)
        rw [getD_drop hk, S_cons, ← mx_is h1 h2] at this
        exact this
      · have e4' := s5 _ _ e4
        have f4 : (List.range (bV A).length).map (fun k => V.int (tT (i + 1) (A.drop k))) = (lv (tT (i + 1)) A).map V.int := by rw [bV_len, lv_map, List.map_map]; rfl
        have f5 : (List.range (bV A).length).map (fun k => V.int (tS (i + 1) (A.drop k))) = (lv (tS (i + 1)) A).map V.int := by rw [bV_len, lv_map, List.map_map]; rfl
        rw [f4] at e4'
        rw [f5] at e5
        have e3' := s5 _ _ (s4 _ _ e3)
        walk_at "r"
        intro p9 hp9
        have s9 := Jv.same_new (u := .tup [.ref D3, .ref D4]) hp9
        have n3 : D3 ≠ D := fun e => by rw [e, e3] at hD3; cases hD3
        have n4 : D4 ≠ D := fun e => by rw [e, s4 _ _ e3] at hD4; cases hD4
        have n9 : p9 ≠ D := fun e => by rw [e, e3'] at hp9; cases hp9
        walk_at "r"
        refine Jv.r_app (s9 _ _ e3') (by omega) ?_
        refine ⟨_, _, _, _, _, _, rfl, fun b o e => Jv.kpO (s9 _ _ (s5 _ _ (s4 _ _ (s3 _ _ e)))) (ne_of_none e nDH), upd_same, ?_⟩
        rw [Jv.hide_upd, List.range_succ, List.map_append]
        refine Jv.DvAll.snoc ?_ (al.same (Jv.hide_same ((s4.trans s5).trans s9)))
        refine .tup (Jv.sqT_at (Jv.hide_one n9 upd_same)) (.cons (iD_of (Jv.hide_one n3 (s9 _ _ e4'))) (.cons (iD_of (Jv.hide_one n4 (s9 _ _ e5))) .nil))
  · rintro σ H2 ⟨y4, y5, y6, y7, y8, vs, rfl, s3, e3, al⟩
    walk_at "r"
    exact q D H2 s3 (.lst e3 (al.same Jv.hide_le))
end
end K39

namespace K39
open PySem PySem.Spec PyProof.Rows L2
/-! ### told_split, told_within -/
def sp_split_at (K : PySem.W.Frag) : Sp := fun vs H Q _ => ∃ (a D : Addr) (A : List Bool) (m st : Nat), vs = [.ref a, .ref D, .int m, .int st] ∧ H a = some (.lst (bV A)) ∧ 1 ≤ m ∧ m ≤ 31 ∧ A.length ≤ 31 ∧ st < A.length ∧
  Jv.Dv K H (.ref D) (.list ((List.range (m + 1)).map (lvD A))) ∧ ∀ t H', Same H H' → SqT K H' t ((due A (m - 1) st).map V.int) → Q (.ref t) H'
def sp_told_split (K : PySem.W.Frag) (T : Tx) : Sp := fun vs H Q E => ∃ vl ve vw vd, vs = [vl, ve, vw, vd] ∧ Asked K T H vl ve vw vd E fun ns => ∀ t H', Same H H' → SqT K H' t (ns.map V.int) → Q (.ref t) H'
def sp_told_within (K : PySem.W.Frag) (T : Tx) : Sp := fun vs H Q E => ∃ vl ve vw vd, vs = [vl, ve, vw, vd] ∧ Asked K T H vl ve vw vd E fun ns => ∀ H', Same H H' → Q (.int ns.sum) H'
section
variable {P : Program} {w : World} {K : PySem.W.Frag} {mg : Str → Option Value} {base : Heap}
theorem ok_split_at (T : Tx) (O : Ok K mg T) : FnOk P w K mg base CX0 1 T.f_split_at T.d_split_at ["allowed", "counts", "words", "end"] (sp_split_at K) := by
  refine O.F_split_at.ok sc_split_at (fun vs H Q E h => by obtain ⟨_, _, _, _, _, rfl, _⟩ := h; rfl) (fun cdv A0 outer s H vs Q E hr h => ?_)
  obtain ⟨a, D, A, m, st, rfl, ha, h1, h2, few, hst, dv, q⟩ := h
  refine ⟨_, (pss_one (ps_ret (pe_op (r := rCatT K) op_catT (pe_tup (pa_cons (pe_ix (r := rIxL K) ix_list (pv 0) (pv 3) (fun _ _ => rfl)) pa_nil)) (pe_callTy (r := Jv.rTupOf K) call_tuple_of (by rfl) O.z_tuple (by decide +kernel) (pa_cons (pe_slice (r := rSlL K) sl_list (pe_ix (r := rIxT K) ix_tup (pe_ix (r := rIxL K) ix_list (pv 1) (pe_op op_sub (pv 2) pe_int) (fun _ _ => rfl)) pe_int (fun _ _ => rfl)) (po_some (pe_op op_add (pv 3) pe_int)) po_none) pa_nil))))), ?_⟩
  walk_at "r"
  refine Jv.r_ixL (Jv.sqL_at ha) (Jv.at_i (by omega) (by rw [Int.toNat_natCast]; exact bV_get hst)) ?_
  walk_at "r"
  intro p hp
  have s1 := Jv.same_new (u := .tup [.int (own (A.getD st false))]) hp
  have dv1 := dv.same s1
  cases dv1 with
  | lst hD al =>
    have e : ((List.range (m + 1)).map (lvD A))[m - 1]? = some (lvD A (m - 1)) := by rw [List.getElem?_map, List.getElem?_range (by omega)]; rfl
    obtain ⟨v, hv, dv⟩ := al.of e
    walk_at "r"
    refine Jv.r_tSl ?_
    walk_at "r"
    refine Jv.r_ixL (Jv.sqL_at hD) (Jv.at_i (by omega) (by rw [show ((m : Int) - 1).toNat = m - 1 by omega]; exact hv)) ?_
    obtain ⟨t2, b, c, rfl, ht2, hb, hc⟩ := lvD_at dv
    walk_at "r"
    refine Jv.r_part ?_
    walk_at "r"
    refine Jv.r_partI (Jv.r_noPart ?_)
    refine Jv.r_slL hc fun p5 H5 hp5 s5 e5 => ?_
    rw [Jv.cut_drop (by omega) (by rw [List.length_map, lv_len]; omega), show ((st : Nat) + 1 : Int).toNat = st + 1 by omega, ← List.map_drop, lv_drop] at e5
    walk_at "r"
    refine Jv.r_tupOfL (Jv.sqL_at e5) fun t3 ht3 => ?_
    have s3 := Jv.same_new (u := .tup ((lv (tS (m - 1)) (A.drop (st + 1))).map V.int)) ht3
    refine ⟨p, t3, _, _, rfl, rfl, Jv.sqT_at ((s5.trans s3) _ _ upd_same), Jv.sqT_at upd_same, by simp, Jv.small_of (by simp [lv_len]; omega), fun e => ?_, fun e p4 hp4 => ?_⟩
    · refine q p _ ((s1.trans s5).trans s3) (Jv.sqT_at (((s5.trans s3) _ _ upd_same).trans ?_))
      unfold due
      rw [List.map_cons, e]
    · exact q p4 _ (((s1.trans s5).trans s3).trans (Jv.same_new hp4)) (Jv.sqT_at upd_same)
  | _ => done
theorem ok_told_split (T : Tx) (O : Ok K mg T) : FnOk P w K mg base (L2.CX P w) 3 T.f_told_split T.d_told_split ["ladder", "ends", "words", "end"] (sp_told_split K T) := by
  refine O.F_told_split.okX sc_told_split (fun vs H Q E h => by obtain ⟨_, _, _, _, rfl, _⟩ := h; rfl) (fun cdv A0 outer s H vs Q E hr h => ?_)
  obtain ⟨vl, ve, vw, vd, rfl, dl, de, dw, dd, hl, he, hw, hd, qq⟩ := h
  refine ⟨_, (pss_cons (ps_expr (pe_callS (ok_check_ladder T O) (hr.mono (by decide)) (by rfl) O.m_check_ladder O.F_check_ladder.kp O.b_check_ladder (fun σ => passAt (takes_of rfl rfl rfl rfl) σ) (pa_cons (pv 0) (pa_cons (pe_glob (v := .int (30)) (by rfl) O.c_TOLD_LADDER_MOST ⟨_, rfl⟩) pa_nil))))
  (pss_cons (ps_set (i := 4) sc_told_split.nd rfl (Or.inl rfl) (pe_callS (ok_allowed_ends T O) (hr.mono (by decide)) (by rfl) O.m_allowed_ends O.F_allowed_ends.kp O.b_allowed_ends (fun σ => passAt (takes_of rfl rfl rfl rfl) σ) (pa_cons (pv 0) (pa_cons (pv 1) pa_nil))))
  (pss_cons (ps_set (i := 5) sc_told_split.nd rfl (Or.inl rfl) (pe_callS (ok_words_left T O) (hr.mono (by decide)) (by rfl) O.m_words_left O.F_words_left.kp O.b_words_left (fun σ => passAt (takes_of rfl rfl rfl rfl) σ) (pa_cons (pv 0) (pa_cons (pv 2) pa_nil))))
  (pss_cons (ps_if (pt_not (pt_val (pe_call (ok_is_whole T O) (hr.mono (by decide)) (by rfl) O.m_is_whole O.F_is_whole.kp O.b_is_whole .nil pass0 (pa_cons (pv 3) (pa_cons pe_int (pa_cons (pv 0) pa_nil)))))) (pss_one (ps_raise rfl (takes_of rfl rfl rfl rfl) (Jv.pmk_own0 PySem.F.excBase_ValueError O.e_BadEnd.x O.m_BadEnd O.e_BadEnd.k (O.e_BadEnd.raises) (by rfl)))) pss_nil)
  (pss_one (ps_ret (pe_call (ok_split_at T O) (hr.mono (by decide)) (by rfl) O.m_split_at O.F_split_at.kp O.b_split_at .nil pass0 (pa_cons (pv 4) (pa_cons (pe_call (ok_counts_by_words T O) (hr.mono (by decide)) (by rfl) O.m_counts_by_words O.F_counts_by_words.kp O.b_counts_by_words .nil pass0 (pa_cons (pv 4) (pa_cons (pv 5) pa_nil))) (pa_cons (pv 5) (pa_cons (pv 3) pa_nil))))))))))), ?_⟩
  walk_at "r"
  refine ⟨vl, dl, 30, rfl, hl, ?_⟩
  rcases qq with ⟨e, k⟩ | ⟨L, rfl, hL, qq⟩
  · exact .inr ⟨e, k⟩
  refine .inl ⟨whole_yes hL, ?_⟩
  obtain rfl : vl = .int L := by cases hl; rfl
  walk_at "r"
  refine ⟨L, ve, de, rfl, hL, he, ?_⟩
  rcases qq with ⟨e, k⟩ | ⟨A, hA, qq⟩
  · exact .inl ⟨e, k⟩
  refine .inr ⟨A, hA, fun a H1 s1 na ha => ?_⟩
  walk_at "r"
  refine ⟨L, vw, dw, rfl, hL, hw.same s1, ?_⟩
  rcases qq with ⟨e, k⟩ | ⟨m, hm, qq⟩
  · exact .inl ⟨e, fun H' s' => k _ (s1.trans s')⟩
  refine .inr ⟨m, hm, ?_⟩
  walk_at "r"
  refine ⟨vd, dd, .int 0, .int L, rfl, hd.same s1, .inr ⟨_, rfl⟩, .inr ⟨_, rfl⟩, ?_⟩
  rw [hd.whole]
  rcases qq with ⟨e, k⟩ | ⟨st, rfl, hst, k⟩
  · rw [e]
    walk_at "r"
    exact k _ s1
  obtain rfl : vd = .int st := by cases hd; rfl
  rw [whole_yes hst]
  have hm1 := hm.pos
  have hA1 := hA.len
  walk_at "r"
  refine ⟨a, A, m, rfl, ha, by omega, by omega, fun D H2 s2 dv => ?_⟩
  walk_at "r"
  exact ⟨a, D, A, m, st, rfl, s2 _ _ ha, hm1.1, by omega, by omega, by omega, dv, fun t H3 s3 ht => k t H3 ((s1.trans s2).trans s3) ht⟩
theorem Asked.imp {K : PySem.W.Frag} {T : Tx} {H : Hp} {vl ve vw vd : V} {E : XK} {g g' : List Int → Prop} (h : Asked K T H vl ve vw vd E g) (f : ∀ ns, g ns → g' ns) : Asked K T H vl ve vw vd E g' := by
  obtain ⟨dl, de, dw, dd, hl, he, hw, hd, qq⟩ := h
  refine ⟨dl, de, dw, dd, hl, he, hw, hd, ?_⟩
  rcases qq with q | ⟨L, e, hL, q | ⟨A, hA, q | ⟨m, hm, q | ⟨st, e2, hst, k⟩⟩⟩⟩
  · exact .inl q
  · exact .inr ⟨L, e, hL, .inl q⟩
  · exact .inr ⟨L, e, hL, .inr ⟨A, hA, .inl q⟩⟩
  · exact .inr ⟨L, e, hL, .inr ⟨A, hA, .inr ⟨m, hm, .inl q⟩⟩⟩
  · exact .inr ⟨L, e, hL, .inr ⟨A, hA, .inr ⟨m, hm, .inr ⟨st, e2, hst, f _ k⟩⟩⟩⟩
theorem ok_told_within (T : Tx) (O : Ok K mg T) : FnOk P w K mg base (L2.CX P w) 4 T.f_told_within T.d_told_within ["ladder", "ends", "words", "end"] (sp_told_within K T) := by
  refine O.F_told_within.okX sc_told_within (fun vs H Q E h => by obtain ⟨_, _, _, _, rfl, _⟩ := h; rfl) (fun cdv A0 outer s H vs Q E hr h => ?_)
  obtain ⟨vl, ve, vw, vd, rfl, h⟩ := h
  refine ⟨_, (pss_one (ps_ret (pe_callB (r := Jv.rSumA K) (Jv.cr_sumA rfl) (by rfl) O.z_sum (by decide +kernel) (pa_cons (Jv.pe_callNS (ok_told_split T O) (hr.mono (by decide)) (by rfl) O.m_told_split O.F_told_split.kp O.kb1_ends_words_end_told_split (fun σ => passAt (takes_of rfl rfl rfl rfl) σ) (pa_cons (pv 0) pa_nil) (pk_cons (pv 1) (pk_cons (pv 2) (pk_cons (pv 3) pk_nil)))) pa_nil)))), ?_⟩
  walk_at "r"
  refine Jv.r_callNS ?_
  walk_at "r"
  refine ⟨rfl, rfl, vl, ve, vw, vd, rfl, h.imp fun ns k t H1 s1 ht => ?_⟩
  walk_at "r"
  exact ⟨.ref t, ns, rfl, ⟨t, rfl, .inr ht⟩, k _ s1⟩
end
end K39

namespace K39
open PySem PySem.Spec PyProof.Rows L2
/-! ### the law's ends, words, allowed -/
theorem can_ints : ∀ ns : List Int, PyData.canLayAll0 (ns.map PyData.int) = true ∧ PyData.depthAll (ns.map PyData.int) ≤ 1
  | [] => ⟨by simp [PyData.canLayAll0], by simp [PyData.depthAll]⟩
  | a :: r => by
    obtain ⟨h1, h2⟩ := can_ints r
    refine ⟨?_, ?_⟩
    · rw [List.map_cons]; simp only [PyData.canLayAll0, PyData.canLay0, h1, Bool.and_self, Bool.true_and]
    · rw [List.map_cons]; simp only [PyData.depthAll, PyData.depth]; omega
theorem shaped_ints (ns : List Int) : SeqAt.shaped (.list (ns.map PyData.int)) = true ∧ SeqAt.shaped (.tuple (ns.map PyData.int)) = true := by
  obtain ⟨h1, h2⟩ := can_ints ns
  unfold SeqAt.shaped
  constructor <;> · simp only [PyData.canLay0, PyData.depth, h1, Bool.true_and]; exact decide_eq_true (by omega)
def EndsV (L : Nat) (d : PyData) : Prop := d = .none ∨ ∃ ns : List Int, Jv.seqD d = some (ns.map PyData.int) ∧ (∀ z ∈ ns, 0 ≤ z ∧ z ≤ L) ∧ ns.length ≤ 70
theorem EndsV.of {L : Nat} {d : PyData} (h : EndsV L d) : ∃ A, EndsOf d L A := by
  rcases h with rfl | ⟨ns, h1, h2, h3⟩
  · exact ⟨_, .inl ⟨rfl, rfl⟩⟩
  · exact ⟨_, .inr ⟨ns, h1, h2, by omega, rfl⟩⟩
def sp_Lis_number : Sp := fun vs H Q _ => ∃ i : Int, vs = [.int i] ∧ Q (.bl true) H
def sp_Lnumbers (K : PySem.W.Frag) : Sp := fun vs H Q _ => ∃ (t : Addr) (ns : List Int), vs = [.ref t, .int (ns.length : Nat)] ∧ SqT K H t (ns.map V.int) ∧ ns.length ≤ 900 ∧ ∀ H', Same H H' → Q (.bl true) H'
def sp_Lsome_ends (K : PySem.W.Frag) : Sp := fun vs H Q _ => ∃ (h hl : Addr) (L : Nat), vs = [.ref h, .int L] ∧ Jv.Hand H h hl ∧ L ≤ 30 ∧ ∀ v d H', Jv.Kp h H H' → Jv.Hand H' h hl → Jv.Dv K (Jv.hide [h] H') v d → EndsV L d → Q v H'
def WordsV (d : PyData) : Prop := d = .none ∨ ∃ w : Int, d = .int w ∧ 1 ≤ w
def sp_Lsome_words (K : PySem.W.Frag) : Sp := fun vs H Q _ => ∃ (h hl : Addr) (L : Nat), vs = [.ref h, .int L] ∧ Jv.Hand H h hl ∧ L ≤ 30 ∧ ∀ v d H', Jv.Kp h H H' → Jv.Hand H' h hl → (∀ Hx, Jv.Dv K Hx v d) → WordsV d → Q v H'
def sp_Lallowed (K : PySem.W.Frag) : Sp := fun vs H Q _ => ∃ (L : Nat) (v : V) (d : PyData), vs = [.int L, v] ∧ Jv.Dv K H v d ∧ EndsV L d ∧ L ≤ 30 ∧ ∀ A D H', EndsOf d L A → Same H H' → H D = none → H' D = some (.lst (A.map V.bl)) → Q (.ref D) H'
section
variable {P : Program} {w : World} {K : PySem.W.Frag} {mg : Str → Option Value} {base : Heap}
theorem ok_Lis_number (T : Tx) (O : Ok K mg T) : FnOk P w K mg base CX0 1 T.f_Lis_number T.d_Lis_number ["_law_thing"] sp_Lis_number := by
  refine O.F_Lis_number.ok sc_Lis_number (fun vs H Q E h => by obtain ⟨_, rfl, _⟩ := h; rfl) (fun cdv A outer s H vs Q E hr h => ?_)
  obtain ⟨i, rfl, q⟩ := h
  refine ⟨_, (pss_one (ps_ret (pe_and (pe_callB (r := rIsi K) call_isi (by rfl) O.z_isinstance (by decide +kernel) (pa_cons (pv 0) (pa_cons (pe_bltn (v := .ty "int") (by rfl) O.z_int (by decide +kernel) rfl) pa_nil))) (pe_one (pe_not (pe_callB (r := rIsi K) call_isi (by rfl) O.z_isinstance (by decide +kernel) (pa_cons (pv 0) (pa_cons (pe_bltn (v := .ty "bool") (by rfl) O.z_bool (by decide +kernel) rfl) pa_nil)))))))), ?_⟩
  have hx : Jv.Dv K H (.int i) (.int i) := .int i
  walk_at "r"
  exact q
theorem ok_Lnumbers (T : Tx) (O : Ok K mg T) : FnOk P w K mg base CX0 2 T.f_Lnumbers T.d_Lnumbers ["_law_thing", "_law_many"] (sp_Lnumbers K) := by
  refine O.F_Lnumbers.ok sc_Lnumbers (fun vs H Q E h => by obtain ⟨_, _, rfl, _⟩ := h; rfl) (fun cdv A outer s H vs Q E hr h => ?_)
  obtain ⟨t, ns, rfl, ht, few, q⟩ := h
  refine ⟨_, (pss_cons (ps_if (PW.pt (pw_or (pt_not (pt_val (pe_callB (r := rIsi K) call_isi (by rfl) O.z_isinstance (by decide +kernel) (pa_cons (pv 0) (pa_cons (pe_bltn (v := .ty "tuple") (by rfl) O.z_tuple (by decide +kernel) rfl) pa_nil))))) (pw_or1 (pt_cmpR op_ne (pe_callB (r := Jv.rLenK K) Jv.cr_len (by rfl) O.z_len (by decide +kernel) (pa_cons (pv 0) pa_nil)) (pv 1) (nomark _))))) (pss_one (ps_ret pe_bl)) pss_nil)
  (pss_one (ps_ret (pe_cmpR (r := rEqD K) (op_eqD hr.units) (pe_lc (own := [("_law_one", 2)]) (by rfl) sc_Lnumbers.nd (Jv.piOr (show PI _ _ _ (iList K _) from pi_list (pv 0)) (show PI _ _ _ (iTup K _) from pi_tup (pv 0))) (blkOk_by (own := [("_law_one", 2)]) (N := ["_law_thing", "_law_many", "_law_one"]) (sc := defScope s_Lnumbers) (scope := ({ kind := .function, names := [(".0", .local), ("_law_one", .local), ("_law_is_number", .globalImplicit)], isGenerator := false, isCoroutine := false } : Scope)) (by decide +kernel)) (fun _ _ _ _ _ => (pg_name (i := 2) sc_Lnumbers.nd rfl (Or.inl rfl))) (fun _ _ _ _ _ => (pts_one (pt_not (pt_val (pe_call (ok_Lis_number T O) (hr.mono (by decide)) (by rfl) O.m_Lis_number O.F_Lis_number.kp O.b_Lis_number .nil pass0 (pa_cons (pv 2) pa_nil)))))) (fun _ _ _ _ _ => (pv 2))) (pe_lst pa_nil) (nomark _))))), ?_⟩
  walk_at "r"
  refine Jv.d_isT (.tup ht (Jv.dv_ints ns)) ?_
  walk_at "r"
  rw [List.length_map]
  rw [decide_eq_true rfl]
  walk_at "r"
  refine Jv.lcF2 (ns := ns) (i := 0) (by rfl) ⟨t, rfl, .inr ht⟩ (fun _ => false) (by omega) (fun z H1 hz s1 R hR => ?_) (fun z H1 PP hP => ?_) (fun D H1 s1 hD eD => ?_)
  · walk_at "r"
    exact ⟨z, rfl, ⟨true, rfl, hR _ (Same.refl _)⟩⟩
  · walk_at "r"
    exact hP
  · walk_at "r"
    intro D2 hD2
    have s2 := Jv.same_new (u := .lst []) hD2
    rw [show ns.filter (fun _ => false) = [] from List.filter_eq_nil_iff.mpr fun _ _ e => nomatch e] at eD
    exact Jv.eq_self (d := .list []) (.lst (s2 _ _ eD) .nil) (.lst upd_same .nil) (shaped_ints []).1 (q _ (s1.trans s2))
theorem dr {H : Hp} {Q : VK} {E : XK} {h hl : Addr} {m : Int} (hh : Jv.Hand H h hl) (m0 : 0 < m) (m1 : m < 2 ^ 200) (q : ∀ z H1, 0 ≤ z → z < m → Jv.Kp h H H1 → Jv.Hand H1 h hl → Q (.int z) H1) : sp_Ldraw ([.ref h, .int m] ++ []) H Q E :=
  ⟨h, hl, m, rfl, hh, ⟨m0, Jv.log_small m0 m1⟩, q⟩
structure Fd (H0 : Hp) (h hl : Addr) (L n : Nat) (σ : L2.St) (H : Hp) : Prop where
  ex : ∃ (a : Addr) (ns : List Int) (y3 y4 : Option V), σ = [some (.ref h), some (.int L), some (.ref a), y3, y4] ∧ H a = some (.lst (ns.map V.int)) ∧ a ≠ h ∧ (∀ z ∈ ns, 0 ≤ z ∧ z ≤ L) ∧ ns.length ≤ n
  kp : Jv.Kp h H0 H
  hh : Jv.Hand H h hl
theorem ok_Lsome_ends (T : Tx) (O : Ok K mg T) : FnOk P w K mg base CX0 3 T.f_Lsome_ends T.d_Lsome_ends ["_law_hand_here", "_law_ladder"] (sp_Lsome_ends K) := by
  refine O.F_Lsome_ends.ok sc_Lsome_ends (fun vs H Q E h => by obtain ⟨_, _, _, rfl, _⟩ := h; rfl) (fun cdv A outer s H vs Q E hr h => ?_)
  obtain ⟨h, hl, L, rfl, hh, hL, q⟩ := h
  refine ⟨_, (pss_cons (ps_if (pt_cmpR op_eq (pe_call (ok_Ldraw T O) (hr.mono (by decide)) (by rfl) O.m_Ldraw O.F_Ldraw.kp O.b_Ldraw .nil pass0 (pa_cons (pv 0) (pa_cons pe_int pa_nil))) pe_int (nomark _)) (pss_one (ps_ret pe_non)) pss_nil)
  (pss_cons (ps_set (i := 2) sc_Lsome_ends.nd rfl (Or.inl rfl) (pe_lst pa_nil))
  (C8.pss_cut (ps_for PassesOwn.never rfl (pi_range1 (by rfl) O.z_range (pa_cons (pe_op op_add (pv 1) pe_int) pa_nil)) (pg_name (i := 3) sc_Lsome_ends.nd rfl (Or.inl rfl)) (pss_cons (ps_set (i := 4) sc_Lsome_ends.nd rfl (Or.inl rfl) (pe_call (ok_Ldraw T O) (hr.mono (by decide)) (by rfl) O.m_Ldraw O.F_Ldraw.kp O.b_Ldraw .nil pass0 (pa_cons (pv 0) (pa_cons pe_int pa_nil))))
  (pss_one (ps_if (pt_cmpR op_gt (pv 4) pe_int (nomark _)) (pss_one (ps_set (i := 2) sc_Lsome_ends.nd rfl (Or.inl rfl) (pe_ifExp (pt_cmpR op_eq (pv 4) pe_int (nomark _)) (pe_op op_cat (pe_lst (pa_cons (pv 3) pa_nil)) (pv 2)) (pe_op op_cat (pv 2) (pe_lst (pa_cons (pv 3) pa_nil)))))) pss_nil))))
  (C8.pss_cut (ps_if (PW.pt (pw_and (pt_cmpR (r := rEqD K) (op_eqD hr.units) (pv 2) (pe_lst pa_nil) (nomark _)) (pw_and1 (pt_cmpR op_gt (pe_call (ok_Ldraw T O) (hr.mono (by decide)) (by rfl) O.m_Ldraw O.F_Ldraw.kp O.b_Ldraw .nil pass0 (pa_cons (pv 0) (pa_cons pe_int pa_nil))) pe_int (nomark _))))) (pss_one (ps_set (i := 2) sc_Lsome_ends.nd rfl (Or.inl rfl) (pe_lst (pa_cons (pe_call (ok_Ldraw T O) (hr.mono (by decide)) (by rfl) O.m_Ldraw O.F_Ldraw.kp O.b_Ldraw .nil pass0 (pa_cons (pv 0) (pa_cons (pe_op op_add (pv 1) pe_int) pa_nil))) pa_nil)))) pss_nil)
  (C8.pss_cut (ps_if (pt_cmpR op_eq (pe_call (ok_Ldraw T O) (hr.mono (by decide)) (by rfl) O.m_Ldraw O.F_Ldraw.kp O.b_Ldraw .nil pass0 (pa_cons (pv 0) (pa_cons pe_int pa_nil))) pe_int (nomark _)) (pss_one (ps_set (i := 2) sc_Lsome_ends.nd rfl (Or.inl rfl) (pe_op op_cat (pv 2) (pe_slice (r := rSlL K) sl_list (pv 2) po_none (po_some (pe_op op_add pe_int (pe_call (ok_Ldraw T O) (hr.mono (by decide)) (by rfl) O.m_Ldraw O.F_Ldraw.kp O.b_Ldraw .nil pass0 (pa_cons (pv 0) (pa_cons pe_int pa_nil))))))))) pss_nil)
  (pss_one (ps_ret (pe_ifExp (pt_cmpR op_eq (pe_call (ok_Ldraw T O) (hr.mono (by decide)) (by rfl) O.m_Ldraw O.F_Ldraw.kp O.b_Ldraw .nil pass0 (pa_cons (pv 0) (pa_cons pe_int pa_nil))) pe_int (nomark _)) (pv 2) (pe_callTy (r := Jv.rTupOf K) call_tuple_of (by rfl) O.z_tuple (by decide +kernel) (pa_cons (pv 2) pa_nil)))))))))), ?_⟩
  walk_at "r"
  refine ⟨h, hl, 3, rfl, hh, ⟨by decide, Jv.log_small (by decide) (by decide)⟩, fun z H1 z0 z1 k1 h1 => ?_⟩
  walk_at "r"
  refine Jv.r_decI (fun _ => ?_) (fun _ => ?_)
  · walk_at "r"
    exact q _ .none H1 k1 h1 .non (.inl rfl)
  refine Jv.r_next ?_
  walk_at "r"
  intro a ha
  obtain ⟨na, _⟩ := h1.ne2 ha
  walk_at "r"
  refine ⟨Fd H h hl L 31, ?_, ?_⟩
  · refine Jv.r_for ?_
    walk_at "r"
    refine ⟨_, rfl, by omega, by omega, ?_⟩
    refine for_range (lo := 0) (n := ((L : Int) + 1).toNat) (fun i σ H' => Fd H h hl L i σ H') ⟨⟨a, [], _, _, rfl, upd_same, na, by simp, by simp⟩, k1.trans (Jv.Kp.new ha), h1.same (Jv.same_new ha)⟩ ?_ ?_
    · rintro i σ H2 hi ⟨⟨b, ns, y3, y4, rfl, hb, nb, bd, ln⟩, k2, h2⟩
      have hi2 : i ≤ L := by omega
      walk_at "r"
      refine dr h2 (by decide) (by decide) fun z H3 z0 z1 k3 h3 => ?_
      have hb3 := k3 _ _ nb hb
      walk_at "r"
      refine Jv.r_dec (fun _ => ?_) (fun _ => ?_)
      · walk_at "r"
        refine Jv.r_decI (fun _ => ?_) (fun _ => ?_)
        · walk_at "r"
          intro p hp
          obtain ⟨np, _⟩ := h3.ne2 hp
          have s4 := Jv.same_new (u := .lst [.int (0 + (i : Nat))]) hp
          walk_at "r"
          refine Jv.r_cat upd_same (s4 _ _ hb3) (by simp; omega) fun c H5 hc s5 e5 => ?_
          obtain ⟨nc, _⟩ := (h3.same s4).ne2 hc
          refine ⟨⟨c, (0 + (i : Nat)) :: ns, _, _, rfl, e5, nc, fun z hz => ?_, by simp; omega⟩, (k2.trans k3).trans (Jv.Kp.same (s4.trans s5)), h3.same (s4.trans s5)⟩
          rcases List.mem_cons.mp hz with rfl | hz
          · omega
          · exact bd z hz
        · walk_at "r"
          intro p hp
          obtain ⟨np, _⟩ := h3.ne2 hp
          have s4 := Jv.same_new (u := .lst [.int (0 + (i : Nat))]) hp
          walk_at "r"
          refine Jv.r_cat (s4 _ _ hb3) upd_same (by simp; omega) fun c H5 hc s5 e5 => ?_
          obtain ⟨nc, _⟩ := (h3.same s4).ne2 hc
          refine ⟨⟨c, ns ++ [(0 + (i : Nat) : Int)], _, _, rfl, by rw [e5, List.map_append]; rfl, nc, fun z hz => ?_, by simp; omega⟩, (k2.trans k3).trans (Jv.Kp.same (s4.trans s5)), h3.same (s4.trans s5)⟩
          rcases List.mem_append.mp hz with hz | hz
          · exact bd z hz
          · rw [List.mem_singleton.mp hz]; omega
      · exact ⟨⟨b, ns, _, _, rfl, hb3, nb, bd, by omega⟩, k2.trans k3, h3⟩
    · rintro σ H2 ⟨⟨b, ns, y3, y4, rfl, hb, nb, bd, ln⟩, k2, h2⟩
      exact ⟨⟨b, ns, y3, y4, rfl, hb, nb, bd, by omega⟩, k2, h2⟩
  · rintro σ H2 ⟨⟨b, ns, y3, y4, rfl, hb, nb, bd, ln⟩, k2, h2⟩
    refine ⟨Fd H h hl L 31, ?_, ?_⟩
    · walk_at "r"
      intro p hp
      have s3 := Jv.same_new (u := .lst []) hp
      refine ⟨.list (ns.map .int), .list [], (Jv.Dv.lst (s3 _ _ hb) (Jv.dv_ints ns)).dp, (Jv.Dv.lst upd_same .nil).dp, (shaped_ints ns).1, (shaped_ints []).1, ?_⟩
      walk_at "r"
      have kk := k2.trans (Jv.Kp.same s3)
      have hh3 := h2.same s3
      have hb3 := s3 _ _ hb
      refine Jv.r_bool (fun _ => ?_) (fun _ => ?_)
      · walk_at "r"
        refine dr hh3 (by decide) (by decide) fun z H3 z0 z1 k3 h3 => ?_
        walk_at "r"
        refine Jv.r_dec (fun _ => ?_) (fun _ => ?_)
        · walk_at "r"
          refine dr h3 (by omega) (by omega) fun y H4 y0 y1 k4 h4 => ?_
          walk_at "r"
          intro c hc
          obtain ⟨nc, _⟩ := h4.ne2 hc
          refine ⟨⟨c, [y], _, _, rfl, upd_same, nc, fun z hz => ?_, by simp⟩, ((kk.trans k3).trans k4).trans (Jv.Kp.new hc), h4.same (Jv.same_new hc)⟩
          rw [List.mem_singleton.mp hz]; omega
        · exact ⟨⟨b, ns, _, _, rfl, k3 _ _ nb hb3, nb, bd, ln⟩, kk.trans k3, h3⟩
      · walk_at "r"
        exact ⟨⟨b, ns, _, _, rfl, hb3, nb, bd, ln⟩, kk, hh3⟩
    · rintro σ H2 ⟨⟨b, ns, y3, y4, rfl, hb, nb, bd, ln⟩, k2, h2⟩
      refine ⟨Fd H h hl L 70, ?_, ?_⟩
      · walk_at "r"
        refine dr h2 (by decide) (by decide) fun z H3 z0 z1 k3 h3 => ?_
        have hb3 := k3 _ _ nb hb
        walk_at "r"
        refine Jv.r_decI (fun _ => ?_) (fun _ => ?_)
        · walk_at "r"
          refine Jv.r_tSl ?_
          walk_at "r"
          refine Jv.r_noPart (Jv.r_part ?_)
          walk_at "r"
          refine dr h3 (by decide) (by decide) fun y H4 y0 y1 k4 h4 => ?_
          have hb4 := k4 _ _ nb hb3
          walk_at "r"
          refine Jv.r_partI ?_
          refine Jv.r_slL hb4 fun p5 H5 hp5 s5 e5 => ?_
          rw [Jv.cut_take (by omega), ← List.map_take] at e5
          refine Jv.r_cat (s5 _ _ hb4) e5 (by simp; omega) fun c H6 hc s6 e6 => ?_
          obtain ⟨nc, _⟩ := (h4.same s5).ne2 hc
          refine ⟨⟨c, ns ++ ns.take (1 + y).toNat, _, _, rfl, by rw [e6, List.map_append], nc, fun z hz => ?_, by simp; omega⟩, ((k2.trans k3).trans k4).trans (Jv.Kp.same (s5.trans s6)), h4.same (s5.trans s6)⟩
          rcases List.mem_append.mp hz with hz | hz
          · exact bd z hz
          · exact bd z (List.mem_of_mem_take hz)
        · exact ⟨⟨b, ns, _, _, rfl, hb3, nb, bd, by omega⟩, k2.trans k3, h3⟩
      · rintro σ H2 ⟨⟨b, ns, y3, y4, rfl, hb, nb, bd, ln⟩, k2, h2⟩
        walk_at "r"
        refine dr h2 (by decide) (by decide) fun z H3 z0 z1 k3 h3 => ?_
        have hb3 := k3 _ _ nb hb
        walk_at "r"
        refine Jv.r_decI (fun _ => ?_) (fun _ => ?_)
        · walk_at "r"
          exact q _ (.list (ns.map .int)) H3 (k2.trans k3) h3 (.lst (Jv.hide_one nb hb3) (Jv.dv_ints ns)) (.inr ⟨ns, rfl, bd, ln⟩)
        · walk_at "r"
          refine Jv.r_tupOfL (Jv.sqL_at hb3) fun t ht => ?_
          obtain ⟨nt, _⟩ := h3.ne2 ht
          exact q _ (.tuple (ns.map .int)) _ ((k2.trans k3).trans (Jv.Kp.new ht)) (h3.same (Jv.same_new ht)) (.tup (Jv.sqT_at (Jv.hide_one nt upd_same)) (Jv.dv_ints ns)) (.inr ⟨ns, rfl, bd, ln⟩)
theorem ok_Lallowed (T : Tx) (O : Ok K mg T) : FnOk P w K mg base CX0 1 T.f_Lallowed T.d_Lallowed ["_law_ladder", "_law_limits"] (sp_Lallowed K) := by
  refine O.F_Lallowed.ok sc_Lallowed (fun vs H Q E h => by obtain ⟨_, _, _, rfl, _⟩ := h; rfl) (fun cdv A outer s H vs Q E hr h => ?_)
  obtain ⟨L, v, d, rfl, hv, hE, hL, q⟩ := h
  refine ⟨_, (pss_one (ps_ret (pe_lc (own := [("_law_stood", 2)]) (by rfl) sc_Lallowed.nd (pi_range1 (by rfl) O.z_range (pa_cons (pe_op op_add (pv 0) pe_int) pa_nil)) (blkOk_by (own := [("_law_stood", 2)]) (N := ["_law_ladder", "_law_limits", "_law_stood"]) (sc := defScope s_Lallowed) (scope := ({ kind := .function, names := [(".0", .local), ("_law_stood", .local), ("_law_limits", .free)], isGenerator := false, isCoroutine := false } : Scope)) (by decide +kernel)) (fun _ _ _ _ _ => (pg_name (i := 2) sc_Lallowed.nd rfl (Or.inl rfl))) (fun _ _ _ _ _ => pts_nil) (fun _ _ _ _ _ => (pe_or (pe_cmpR op_isN (pv 1) pe_non (nomark _)) (pe_one (pe_cmpR (r := rIn K false) op_in_seq (pv 2) (pv 1) rfl))))))), ?_⟩
  walk_at "r"
  rcases hE with rfl | ⟨ns, e, h1, h2⟩
  · cases hv
    refine Jv.lcFn (n := L + 1) (fun PP hP => by walk_at "r"; exact hP) (by omega) (fun i => V.bl true) (by omega) (fun i H3 hi s3 PP hP => ?_) (fun D2 H3 s3 hD2 e3 => ?_)
    · walk_at "r"
      exact hP _ (Same.refl _)
    · walk_at "r"
      refine q _ D2 H3 (.inl ⟨rfl, rfl⟩) s3 hD2 ?_
      rw [e3, List.map_replicate]
      congr 2
      exact List.eq_replicate_iff.mpr ⟨by simp, fun b hb => by obtain ⟨_, _, rfl⟩ := List.mem_map.mp hb; rfl⟩
  · obtain ⟨xs, sk, al⟩ := hv.sk e
    obtain rfl := Jv.dv_intsV al
    have nv : v ≠ .non := fun z => by obtain ⟨_, e, _⟩ := sk; rw [z] at e; cases e
    refine Jv.lcFn (n := L + 1) (fun PP hP => by walk_at "r"; exact hP) (by omega) (fun i => V.bl (decide ((i : Int) ∈ ns))) (by omega) (fun i H3 hi s3 PP hP => ?_) (fun D2 H3 s3 hD2 e3 => ?_)
    · walk_at "r"
      rw [decide_eq_false nv]
      walk_at "r"
      refine Jv.r_in (sk.same s3) ?_
      exact hP _ (Same.refl _)
    · walk_at "r"
      refine q _ D2 H3 (.inr ⟨ns, e, h1, by omega, rfl⟩) s3 hD2 ?_
      rw [e3, List.map_map]; rfl
end
end K39

namespace Jv
open PySem PySem.Spec PyProof.Rows L2
/-! ### comprehensions over a range from 1, over enumerate from a number; pairs and their order -/
section
variable {K : PySem.W.Frag} {σ : L2.St} {H : Hp} {te : TE} {tt : TT} {Q : VK} {j a b c n : Nat} {xs ys : List V} {N : List Addr} {cs : List (Int × Int)}
theorem lcFn1 {ta : TA} {k : Int} (hit : ∀ P : List V → Hp → Prop, P [.int 1, .int k] H → ta σ H P) (hk : k = n + 1) (F : Nat → V) (few : n ≤ 900)
    (hs : ∀ (i : Nat) (H1 : Hp), i < n → Same H H1 → ∀ P : VK, (∀ H2, Same H1 H2 → P (F i) H2) → te ((σ.set j none).set j (some (.int (1 + (i : Nat))))) H1 P)
    (hd : ∀ D H1, Same H H1 → H D = none → H1 D = some (.lst ((List.range n).map F)) → Q (.ref D) H1) : tLc (iRng2 ta) (gName j) tYes te [j] σ H Q := by
  subst hk
  exact hit _ ⟨_, _, rfl, by omega, lcFnW (walk_range (lo := 1) (n := ((n : Int) + 1 - 1).toNat)) (fun _ _ => trivial) yfn F (by omega) (fun i v H1 hi hv s P hP => by subst hv; exact hs i H1 (by omega) s P hP) fun D H1 s hD e => hd D H1 s hD (by rw [show ((n : Int) + 1 - 1).toNat = n by omega] at e; exact e)⟩
theorem lcDn1 {ta : TA} {k : Int} (hit : ∀ P : List V → Hp → Prop, P [.int 1, .int k] H → ta σ H P) (hk : k = n + 1) (hN : Held N H) (es : List PyData) (hl : es.length = n) (few : n ≤ 900)
    (hs : ∀ (i : Nat) e D H1, i < n → es[i]? = some e → Same H H1 → Held (D :: N) H1 → H D = none → ∀ P : VK, (∀ y H2, Same H1 H2 → Dv K (hide (D :: N) H2) y e → P y H2) → te ((σ.set j none).set j (some (.int (1 + (i : Nat))))) H1 P)
    (hd : ∀ D ys H1, Same H H1 → H D = none → H1 D = some (.lst ys) → DvAll K (hide N H1) ys es → DvAll K (hide (D :: N) H1) ys es → Q (.ref D) H1) : tLc (iRng2 ta) (gName j) tYes te [j] σ H Q := by
  subst hk
  exact hit _ ⟨_, _, rfl, by omega, lcD (walk_range (lo := 1) (n := ((n : Int) + 1 - 1).toNat)) (fun _ _ => trivial) yfn hN es (by omega) (by omega) (fun i v e D H1 hi hv he s hh hD P hP => by subst hv; exact hs i e D H1 (by omega) he s hh hD P hP) hd⟩
theorem lcEnPW {J : It} {G : Hp → Prop} {k0 : Int} (w : Walk J xs.length G (YPair (fun i => some (.int (k0 + (i : Nat)))) (fun i => xs[i]?))) (hG : ∀ H', Same H H' → G H') (p : Nat → Bool) (F : Nat → V) (few : xs.length ≤ 900)
    (hw : ∀ x y, wipe (((wipe σ [a, b]).set a (some x)).set b (some y)) [a, b] = wipe σ [a, b])
    (hp : ∀ i v H1, xs[i]? = some v → Same H H1 → ∀ R : Bool → Hp → Prop, (∀ H2, Same H1 H2 → R (p i) H2) → tt (((wipe σ [a, b]).set a (some (.int (k0 + (i : Nat))))).set b (some v)) H1 R)
    (hs : ∀ i v H1, xs[i]? = some v → Same H H1 → ∀ P : VK, (∀ H2, Same H1 H2 → P (F i) H2) → te (((wipe σ [a, b]).set a (some (.int (k0 + (i : Nat))))).set b (some v)) H1 P)
    (hd : ∀ D H1, Same H H1 → H D = none → H1 D = some (.lst (((List.range xs.length).filter p).map F)) → Q (.ref D) H1) : ∀ D, H D = none → ∃ W : Nat → Nat → Hp → Prop, (∃ m, W 0 m (upd H D (.lst []))) ∧ ∀ i m H, W i m H →
      (J.stop i H ∧ Q (.ref D) H) ∨ (J.go i H ∧ ∃ Nx : Hp → Prop, (∀ H', Nx H' → ∃ m', m' < m ∧ W (i + 1) m' H') ∧ ∀ x H', J.yld i H x H' → gTup K 2 (gCons (gName a) (gCons (gName b) gNil)) x (wipe σ [a, b]) H' fun σ2 H2 => wipe σ2 [a, b] = wipe σ [a, b] ∧ tt σ2 H2 fun b H3 =>
        if b = true then te σ2 H3 fun y H4 => ∃ acc, H4 D = some (.lst acc) ∧ acc.length < sizeLine ∧ Nx (upd H4 D (.lst (acc ++ [y]))) else Nx H3) := by
  intro D hD
  refine lc_it w (fun i H1 => Same H H1 ∧ H1 D = some (.lst (((List.range i).filter p).map F))) ⟨same_new hD, upd_same⟩ (fun i H1 _ h => hG H1 h.1) ?_ ?_
  · rintro i x H1 H2 hi ⟨s1, e1⟩ ⟨T, y, z, rfl, hT, rfl, e2, e3⟩
    cases e2
    have sN := same_new (u := .tup [.int (k0 + (i : Nat)), z]) hT
    refine ⟨T, _, rfl, sqT_at upd_same, rfl, _, _, rfl, _, _, rfl, rfl, hw _ _, ?_⟩
    refine hp i z _ e3 (s1.trans sN) _ fun H3 s3 => ?_
    by_cases pi : p i = true
    · rw [if_pos pi]
      refine hs i z _ e3 ((s1.trans sN).trans s3) _ fun H4 s4 => ⟨_, s4 _ _ (s3 _ _ (sN _ _ e1)), small_lt ?_, fun c o e => ?_, ?_⟩
      · have := List.length_filter_le p (List.range i)
        rw [List.length_range] at this
        rw [List.length_map]; omega
      · exact kpO (s4 _ _ (s3 _ _ (sN _ _ (s1 c o e)))) (ne_of_none e hD)
      · rw [upd_same, List.range_succ, List.filter_append, List.map_append]; simp [pi]
    · rw [if_neg pi]
      refine ⟨(s1.trans sN).trans s3, ?_⟩
      rw [s3 _ _ (sN _ _ e1), List.range_succ, List.filter_append, List.map_append]; simp [pi]
  · rintro H1 ⟨s1, e1⟩
    exact hd D H1 s1 hD e1
theorem lcEnP {ta : TA} {t : Addr} {k0 : Int} (hit : ∀ P : List V → Hp → Prop, P [.ref t, .int k0] H → ta σ H P) (ht : SqL K H t xs) (h0 : 0 ≤ k0) (h1 : k0 < 1000) (p : Nat → Bool) (F : Nat → V) (few : xs.length ≤ 900)
    (hw : ∀ x y, wipe (((wipe σ [a, b]).set a (some x)).set b (some y)) [a, b] = wipe σ [a, b])
    (hp : ∀ i v H1, xs[i]? = some v → Same H H1 → ∀ R : Bool → Hp → Prop, (∀ H2, Same H1 H2 → R (p i) H2) → tt (((wipe σ [a, b]).set a (some (.int (k0 + (i : Nat))))).set b (some v)) H1 R)
    (hs : ∀ i v H1, xs[i]? = some v → Same H H1 → ∀ P : VK, (∀ H2, Same H1 H2 → P (F i) H2) → te (((wipe σ [a, b]).set a (some (.int (k0 + (i : Nat))))).set b (some v)) H1 P)
    (hd : ∀ D H1, Same H H1 → H D = none → H1 D = some (.lst (((List.range xs.length).filter p).map F)) → Q (.ref D) H1) : tLc (iEnK K ta) (gTup K 2 (gCons (gName a) (gCons (gName b) gNil))) tt te [a, b] σ H Q :=
  hit _ ⟨t, xs, k0, rfl, ht, h0, h1, lcEnPW walk_enK (fun H' s => s.seq ht) p F few hw hp hs hd⟩
/-! pairs of ints -/
def pairOf (H : Hp) : V → Int × Int
  | .ref t => match H t with
    | some (.tup [.int a, .int b]) => (a, b)
    | _ => (0, 0)
  | _ => (0, 0)
theorem pairOf_at {t : Addr} {c : Int × Int} (h : H t = some (.tup [.int c.1, .int c.2])) : pairOf H (.ref t) = c := by
  unfold pairOf
  simp only [h]
def PrsAt (H : Hp) (ys : List V) (cs : List (Int × Int)) : Prop := ys.length = cs.length ∧ ∀ (i : Nat) y c, ys[i]? = some y → cs[i]? = some c → ∃ t, y = .ref t ∧ H t = some (.tup [.int c.1, .int c.2])
theorem PrsAt.nil : PrsAt H [] [] := ⟨rfl, fun i y c h => by simp at h⟩
theorem PrsAt.same {H' : Hp} (h : PrsAt H ys cs) (s : ∀ t x, H t = some (.tup x) → H' t = some (.tup x)) : PrsAt H' ys cs := ⟨h.1, fun i y c e1 e2 => by
  obtain ⟨t, e, q⟩ := h.2 i y c e1 e2
  exact ⟨t, e, s _ _ q⟩⟩
theorem PrsAt.snoc {T : Addr} {c : Int × Int} (h : PrsAt H ys cs) (hT : H T = some (.tup [.int c.1, .int c.2])) : PrsAt H (ys ++ [.ref T]) (cs ++ [c]) := by
  refine ⟨by simp [h.1], fun i y d e1 e2 => ?_⟩
  by_cases hi : i < ys.length
  · rw [List.getElem?_append_left hi] at e1
    rw [List.getElem?_append_left (by rw [← h.1]; exact hi)] at e2
    exact h.2 i y d e1 e2
  · rw [List.getElem?_append_right (by omega)] at e1
    rw [List.getElem?_append_right (by rw [← h.1]; omega)] at e2
    rw [← h.1] at e2
    by_cases z : i - ys.length = 0
    · rw [z] at e1 e2
      cases e1; cases e2
      exact ⟨T, rfl, hT⟩
    · obtain ⟨k, hk⟩ : ∃ k, i - ys.length = k + 1 := ⟨i - ys.length - 1, by omega⟩
      rw [hk] at e1
      simp at e1
theorem PrsAt.keys (h : PrsAt H ys cs) : ys.map (pairOf H) = cs := by
  refine List.ext_getElem? fun i => ?_
  rw [List.getElem?_map]
  by_cases hi : i < ys.length
  · have hc : i < cs.length := by rw [← h.1]; exact hi
    rw [List.getElem?_eq_getElem hi, List.getElem?_eq_getElem hc]
    obtain ⟨t, e, q⟩ := h.2 i _ _ (List.getElem?_eq_getElem hi) (List.getElem?_eq_getElem hc)
    rw [e]
    show some (pairOf H (.ref t)) = _
    rw [pairOf_at q]
  · rw [List.getElem?_eq_none (by omega), List.getElem?_eq_none (by rw [← h.1]; omega)]; rfl
theorem PrsAt.mem (h : PrsAt H ys cs) {y : V} (m : y ∈ ys) : ∃ t, y = .ref t ∧ H t = some (.tup [.int (pairOf H y).1, .int (pairOf H y).2]) := by
  obtain ⟨i, hi, e⟩ := List.getElem_of_mem m
  have hc : i < cs.length := by rw [← h.1]; exact hi
  obtain ⟨t, e2, q⟩ := h.2 i _ _ (List.getElem?_eq_getElem hi) (List.getElem?_eq_getElem hc)
  rw [e] at e2
  subst e2
  refine ⟨t, rfl, ?_⟩
  rw [pairOf_at q]; exact q
theorem PrsAt.of (h : ∀ y ∈ ys, ∃ t, y = .ref t ∧ H t = some (.tup [.int (pairOf H y).1, .int (pairOf H y).2])) (k : ys.map (pairOf H) = cs) : PrsAt H ys cs := by
  subst k
  refine ⟨by simp, fun i y c e1 e2 => ?_⟩
  rw [List.getElem?_map, e1] at e2
  cases e2
  exact h y (List.mem_of_getElem? e1)
def pairD (c : Int × Int) : PyData := .tuple [.int c.1, .int c.2]
theorem PrsAt.dv : ∀ {ys : List V} {cs : List (Int × Int)}, PrsAt H ys cs → DvAll K H ys (cs.map pairD)
  | [], [], _ => .nil
  | [], c :: cs, h => by have := h.1; simp at this
  | y :: ys, [], h => by have := h.1; simp at this
  | y :: ys, c :: cs, h => by
    obtain ⟨t, e, q⟩ := h.2 0 y c rfl rfl
    subst e
    refine .cons (.tup (sqT_at q) (.cons (.int _) (.cons (.int _) .nil))) (PrsAt.dv ⟨by have := h.1; simpa using this, fun i y c e1 e2 => h.2 (i + 1) y c (by simpa using e1) (by simpa using e2)⟩)
theorem r_sortP {A : Addr} (ha : SqL K H A ys) (hp : PrsAt H ys cs) (hd : cs.Pairwise fun a b => b.1 < a.1) (q : ∀ ys' p, PrsAt H ys' cs.reverse → H p = none → Q (.ref p) (upd H p (.lst ys'))) : rSortedPO K [.ref A] H Q := by
  refine ⟨A, ys, pairOf H, rfl, ha, fun x hx => hp.mem hx, fun ys' p srt stb hn => q ys' p (.of (fun y hy => hp.mem (stb.perm.mem_iff.mp hy)) ?_) hn⟩
  refine List.Perm.eq_of_pairwise (le := fun x y => SrtO.lexB y x = false) (fun x y _ _ h1 h2 => ?_) (List.pairwise_map.mpr srt) (List.pairwise_reverse.mpr (hd.imp fun {x y} h => SrtO.lexB_no.mpr (by omega))) ?_
  · have h1 := SrtO.lexB_no.mp h1
    have h2 := SrtO.lexB_no.mp h2
    exact Prod.ext (by omega) (by omega)
  · refine (stb.perm.map _).trans ?_
    rw [hp.keys]
    exact (List.reverse_perm cs).symm
theorem lcEnC {ta : TA} {t : Addr} {Ts : List Addr} {us vs : List V} (hit : ∀ P : List V → Hp → Prop, P [.ref t, .int 1] H → ta σ H P) (ht : SqL K H t (Ts.map V.ref)) (hT : PairsAt us vs H Ts) (p : Nat → Bool) (F : Nat → Int × Int) (few : Ts.length ≤ 900)
    (hw : ∀ x y z, wipe ((((wipe σ [a, b, c]).set a (some x)).set b (some y)).set c (some z)) [a, b, c] = wipe σ [a, b, c])
    (hp : ∀ i u v H1, us[i]? = some u → vs[i]? = some v → Same H H1 → ∀ R : Bool → Hp → Prop, (∀ H2, Same H1 H2 → R (p i) H2) → tt ((((wipe σ [a, b, c]).set a (some (.int (1 + (i : Nat))))).set b (some u)).set c (some v)) H1 R)
    (hs : ∀ i u v H1, us[i]? = some u → vs[i]? = some v → Same H H1 → ∀ P : VK, (∀ T H2, Same H1 H2 → H2 T = some (.tup [.int (F i).1, .int (F i).2]) → P (.ref T) H2) → te ((((wipe σ [a, b, c]).set a (some (.int (1 + (i : Nat))))).set b (some u)).set c (some v)) H1 P)
    (hd : ∀ D ys H1, Same H H1 → H D = none → H1 D = some (.lst ys) → PrsAt H1 ys (((List.range Ts.length).filter p).map F) → Q (.ref D) H1) : tLc (iEnK K ta) (gTup K 2 (gCons (gName a) (gCons (gTup K 2 (gCons (gName b) (gCons (gName c) gNil))) gNil))) tt te [a, b, c] σ H Q := by
  refine hit _ ⟨t, _, 1, rfl, ht, by decide, by decide, ?_⟩
  intro D hD
  have w := walk_enK (K := K) (a := t) (xs := Ts.map V.ref) (k0 := 1)
  refine lc_it w (fun i H1 => Same H H1 ∧ ∃ ys, H1 D = some (.lst ys) ∧ PrsAt H1 ys (((List.range i).filter p).map F)) ⟨same_new hD, [], upd_same, .nil⟩ (fun i H1 _ h => h.1.seq ht) ?_ ?_
  · rintro i x H1 H2 hi ⟨s1, ys, e1, pa⟩ ⟨T, y, z, rfl, hT1, rfl, e2, e3⟩
    cases e2
    rw [List.length_map] at hi
    replace e3 : (Ts.map V.ref)[i]? = some z := e3
    rw [List.getElem?_map, List.getElem?_eq_getElem hi] at e3
    cases e3
    obtain ⟨u, v, eu, ev, eT⟩ := hT i _ (List.getElem?_eq_getElem hi)
    have sN := same_new (u := .tup [.int (1 + (i : Nat)), .ref Ts[i]]) hT1
    have s2 := s1.trans sN
    have len : ys.length ≤ i := by
      rw [pa.1, List.length_map]
      have := List.length_filter_le p (List.range i)
      rw [List.length_range] at this
      exact this
    refine ⟨T, _, rfl, sqT_at upd_same, rfl, _, _, rfl, _, _, rfl, ⟨_, _, rfl, sqT_at (s2 _ _ eT), rfl, _, _, rfl, _, _, rfl, rfl, rfl, hw _ _ _, ?_⟩⟩
    refine hp i u v _ eu ev s2 _ fun H3 s3 => ?_
    have pa3 := pa.same (H' := H3) fun t x e => s3 _ _ (sN _ _ e)
    have e3 := s3 _ _ (sN _ _ e1)
    by_cases pi : p i = true
    · rw [if_pos pi]
      refine hs i u v _ eu ev (s2.trans s3) _ fun T4 H4 s4 e4 => ⟨_, s4 _ _ e3, small_lt (by omega), fun c o e => ?_, _, upd_same, ?_⟩
      · exact kpO (s4 _ _ (s3 _ _ (s2 c o e))) (ne_of_none e hD)
      · have up : ∀ t x, H4 t = some (.tup x) → upd H4 D (.lst (ys ++ [.ref T4])) t = some (.tup x) := fun t x e => by
          have ne : t ≠ D := fun z => by subst z; rw [s4 _ _ e3] at e; cases e
          rw [upd_ne ne]; exact e
        have pa4 := (pa3.same (H' := upd H4 D (.lst (ys ++ [.ref T4]))) fun t x e => up _ _ (s4 _ _ e)).snoc (c := F i) (up _ _ e4)
        rw [List.range_succ, List.filter_append, List.map_append]
        simpa [pi] using pa4
    · rw [if_neg pi]
      refine ⟨s2.trans s3, ys, e3, ?_⟩
      rw [List.range_succ, List.filter_append, List.map_append]
      simpa [pi] using pa3
  · rintro H1 ⟨s1, ys, e1, pa⟩
    rw [List.length_map] at pa
    exact hd D ys H1 s1 hD e1 pa
theorem r_ckw {r : List V → List V → Hp → VK → Prop} {t tk : TA} (h : t σ H fun vs H1 => tk σ H1 fun zs H2 => r vs zs H2 Q) : tCKw r t tk σ H Q := h
theorem lcFe {te0 : TE} (h : ∀ R : VK, (∀ A zs (F : Nat → V) H1, SqL K H1 A zs → zs.length ≤ 900 → (∀ i v H2, zs[i]? = some v → Same H1 H2 → ∀ P : VK, (∀ H3, Same H2 H3 → P (F i) H3) → te ((σ.set j none).set j (some v)) H2 P) →
      (∀ D H2, Same H1 H2 → H1 D = none → H2 D = some (.lst ((List.range zs.length).map F)) → Q (.ref D) H2) → R (.ref A) H1) → te0 σ H R) : tLc (iList K te0) (gName j) tYes te [j] σ H Q :=
  h _ fun A zs F H1 hz few hs hd => ⟨A, rfl, ⟨zs, hz⟩, lcFnW walk_list (fun H' s => s.seq hz) yat F few (fun i v H2 _ hv s P hP => hs i v H2 hv s P hP) hd⟩
theorem lcFi {i : Nat} {t : Addr} {ns : List Int} (hv : σ[i]? = some (some (.ref t))) (h0 : SqL K H t (ns.map V.int)) (f : Int → Bool) (few : ns.length ≤ 1000)
    (ht : ∀ z H1, z ∈ ns → Same H H1 → ∀ R : Bool → Hp → Prop, (∀ H2, Same H1 H2 → R (f z) H2) → tt ((σ.set j none).set j (some (.int z))) H1 R)
    (hs : ∀ z H1, ∀ P : VK, P (.int z) H1 → te ((σ.set j none).set j (some (.int z))) H1 P)
    (hd : ∀ D H1, Same H H1 → H D = none → H1 D = some (.lst ((ns.filter f).map V.int)) → Q (.ref D) H1) : tLc (iList K (tVar i)) (gName j) tt te [j] σ H Q :=
  ⟨_, hv, t, rfl, ⟨_, h0⟩, lcFW walk_list (fun H' s => s.seq h0) f few ht hs hd⟩
theorem r_andx {d : Bool} {t : TT} {ta tb : TE} (v : V) (h : ∀ Q' : VK, Q' v H → if d = true then t σ H (fun e H1 => if e = true then ta σ H1 Q' else tb σ H1 Q') else tb σ H Q') (q : Q v H) : if d = true then t σ H (fun e H1 => if e = true then ta σ H1 Q else tb σ H1 Q) else tb σ H Q := h Q q
theorem r_lz {ta : TA} (h : ta σ H fun vs H1 => ∃ a b xs ys, vs = [.ref a, .ref b] ∧ SqL K H1 a xs ∧ SqL K H1 b ys ∧ min xs.length ys.length ≤ 900 ∧
  ∀ Ts D H', Same H1 H' → H1 D = none → H' D = some (.lst (Ts.map V.ref)) → Ts.length = min xs.length ys.length → PairsAt xs ys H' Ts → Q (.ref D) H') : tLstZip K ta σ H Q := h
theorem r_whl {cc : TT} {tb : TS} {D : Ends} (h : ∃ W : Nat → L2.St → Hp → Prop, (∃ m, W m σ H) ∧ ∀ m σ H, W m σ H →
  cc σ H fun b H1 => if b = true then ∃ N : L2.St → Hp → Prop, (∀ σ' H', N σ' H' → ∃ m', m' < m ∧ W m' σ' H') ∧ tb { D with nx := N, ct := N, bk := D.nx } σ H1 else D.nx σ H1) : tWhile cc tb D σ H := h
theorem r_revL (h : te σ H fun x H1 => ∃ A zs, x = V.ref A ∧ SqL K H1 A zs ∧ ∀ p, H1 p = none → Q (.ref p) (upd H1 p (.lst zs.reverse))) : tRevL K te σ H Q := h
theorem r_ifx {c : Bool} {ta tb : TE} (v : V) (h1 : c = true → ∀ Q' : VK, Q' v H → ta σ H Q') (h2 : c = false → ∀ Q' : VK, Q' v H → tb σ H Q') (q : Q v H) : if c = true then ta σ H Q else tb σ H Q := by
  cases c
  · exact h2 rfl _ q
  · exact h1 rfl _ q
end
end Jv

namespace K39
/-! a floor under the lines without bounds -/
theorem fl_mono {p q : Nat → Bool} : ∀ {l : List Nat}, (∀ x ∈ l, p x = true → q x = true) → (l.filter p).length ≤ (l.filter q).length
  | [], _ => Nat.le_refl _
  | a :: l, h => by
    have ih := fl_mono (p := p) (q := q) (l := l) fun x m => h x (List.mem_cons_of_mem _ m)
    have ha := h a List.mem_cons_self
    by_cases c : p a = true
    · simp only [List.filter_cons, c, ha c, if_true, List.length_cons]; omega
    · simp only [List.filter_cons, c]
      split
      · rename_i z; cases z
      · split
        · rw [List.length_cons]; omega
        · exact ih
def cntL (l : List Nat) (m : Nat) : Nat := ((List.range l.length).filter fun j => decide (m ≤ l.getD j 0)).length
theorem rN_low {M m : Nat} {f : Nat → Nat} {l : List Nat} (hl : l.length ≤ M) (h : ∀ j, j < l.length → l.getD j 0 ≤ f (j + 1)) : cntL l m ≤ rN M f m := by
  unfold cntL rN
  have e : List.range M = List.range l.length ++ (List.range (M - l.length)).map fun k => l.length + k := by
    rw [← List.range_add]
    congr 1; omega
  rw [e, List.filter_append, List.length_append]
  have := fl_mono (p := fun j => decide (m ≤ l.getD j 0)) (q := fun j => decide (m ≤ f (j + 1))) (l := List.range l.length) fun x hx hp => by
    have h1 := h x (List.mem_range.mp hx)
    have h2 := of_decide_eq_true hp
    exact decide_eq_true (by omega)
  omega
def LowR (M : Nat) : List Bool → List (List Nat) → Prop
  | [], [] => True
  | b :: bs, l :: ls => (l.length ≤ M ∧ ∀ j, j < l.length → l.getD j 0 ≤ gT M (b :: bs) (j + 1)) ∧ LowR M bs ls
  | _, _ => False
theorem low_sum {M m : Nat} : ∀ {bs : List Bool} {ls : List (List Nat)}, LowR M bs ls → (ls.map fun l => cntL l m).sum ≤ ((gM M bs).map fun g => rN M g m).sum
  | [], [], _ => Nat.le_refl _
  | b :: bs, l :: ls, h => by
    obtain ⟨⟨h1, h2⟩, h3⟩ := h
    have a := rN_low (m := m) h1 h2
    have b := low_sum (m := m) h3
    rw [gM_cons, List.map_cons, List.map_cons, List.sum_cons, List.sum_cons]
    omega
  | [], l :: ls, h => h.elim
  | b :: bs, [], h => h.elim
def lowB (ls : List (List Nat)) (m : Nat) : Nat := (if m = 1 then 1 else 0) + (ls.map fun l => cntL l m).sum
theorem LowR.cons {M : Nat} {bs : List Bool} {ls : List (List Nat)} (h : LowR M bs ls) (l : List Nat) (hl : l.length ≤ M) (hh : ∀ j, j < l.length → l.getD j 0 ≤ lowB ls (j + 1)) : LowR M (true :: bs) (l :: ls) := by
  refine ⟨⟨hl, fun j hj => ?_⟩, h⟩
  have a := low_sum (m := j + 1) h
  have b := hh j hj
  unfold lowB at b
  rw [gT_cons]
  have : (own true).toNat = 1 := rfl
  rw [this]
  omega
theorem eight {M : Nat} (hM : 8 ≤ M) : 8 ≤ gT M (List.replicate 9 true) 8 := by
  have h0 : LowR M [] [] := trivial
  have h1 := h0.cons [1] (by simp; omega) (by decide)
  have h2 := h1.cons [2] (by simp; omega) (by decide)
  have h3 := h2.cons [3, 1] (by simp; omega) (by decide)
  have h4 := h3.cons [5, 2, 1] (by simp; omega) (by decide)
  have h5 := h4.cons [8, 4, 2, 1, 1] (by simp; omega) (by decide)
  have h6 := h5.cons [13, 7, 4, 3, 2, 1, 1, 1] (by simp; omega) (by decide)
  have h7 := h6.cons [21, 12, 8, 6, 4, 3, 3, 2] (by simp; omega) (by decide)
  have h8 := h7.cons [20, 18, 15, 11, 8] (by simp; omega) (by decide)
  have h9 := h8.cons [8, 8, 8, 8, 8, 8, 8, 8] (by simp; omega) (by decide)
  exact h9.1.2 7 (by decide)
end K39

namespace K39
open PySem PySem.Spec PyProof.Rows L2
/-! ### greatest_answering, both_tables -/
def tD (ns : List Int) : PyData := .tuple (ns.map PyData.int)
def splsD (M : Nat) (b : Bool) (bs : List Bool) : PyData := .list ((List.range M).map fun i => tD (spl M b bs (i + 1)))
def tabsD (M : Nat) : List Bool → List PyData
  | [] => []
  | b :: bs => splsD M b bs :: tabsD M bs
def callsD (M : Nat) (bs : List Bool) : List PyData := (gM M bs).map fun g => iD (tabl M fun m => rN M g m)
def sp_greatest (K : PySem.W.Frag) : Sp := fun vs H Q _ => ∃ (c : Addr) (M m : Nat) (f : Nat → Nat), vs = [.ref c, .int m] ∧ H c = some (.lst ((tabl M f).map V.int)) ∧ Ant f ∧ M ≤ 60 ∧ ∀ H', Same H H' → Q (.int (rN M f m : Nat)) H'
def sp_both_tables (K : PySem.W.Frag) : Sp := fun vs H Q _ => ∃ (a : Addr) (A : List Bool) (M : Nat), vs = [.ref a, .int M] ∧ H a = some (.lst (bV A)) ∧ A.length ≤ 9 ∧ M ≤ 60 ∧ ∀ v H', Same H H' → Jv.Dv K H' v (.list (tabsD M A)) → Q v H'
theorem tabl_get {M j : Nat} {f : Nat → Nat} {v : V} (h : ((tabl M f).map V.int)[j]? = some v) : j < M ∧ v = .int (f (j + 1) : Nat) := by
  have hj : j < M := by
    have := (List.getElem?_eq_some_iff.mp h).1
    rw [List.length_map, tabl_len] at this
    exact this
  rw [List.getElem?_map, tabl_at hj] at h
  cases h
  exact ⟨hj, rfl⟩
theorem tD_at {K : PySem.W.Frag} {H : Hp} {v : V} {ns : List Int} (h : Jv.Dv K H v (tD ns)) : ∃ t, v = .ref t ∧ SqT K H t (ns.map V.int) := by
  cases h with
  | tup h al => exact ⟨_, rfl, Jv.dv_intsV al ▸ h⟩
section
variable {P : Program} {w : World} {K : PySem.W.Frag} {mg : Str → Option Value} {base : Heap}
theorem ok_greatest_answering (T : Tx) (O : Ok K mg T) : FnOk P w K mg base CX0 1 T.f_greatest_answering T.d_greatest_answering ["counts", "many"] (sp_greatest K) := by
  refine O.F_greatest_answering.ok sc_greatest_answering (fun vs H Q E h => by obtain ⟨_, _, _, _, rfl, _⟩ := h; rfl) (fun cdv A0 outer s H vs Q E hr h => ?_)
  obtain ⟨c, M, m, f, rfl, hc, an, few, q⟩ := h
  refine ⟨_, (pss_one (ps_ret (pe_callBK (r := Jv.rMaxD K) (Jv.cr_maxD rfl) (by rfl) O.z_max (by decide +kernel) (pa_cons (pe_lc (own := [("kinds", 2), ("most", 3)]) (by rfl) sc_greatest_answering.nd (show PI _ _ _ (Jv.iEnK K _) from Jv.pi_enK (by rfl) O.z_enumerate (pa_cons (pv 0) (pa_cons pe_int pa_nil))) (blkOk_by (own := [("kinds", 2), ("most", 3)]) (N := ["counts", "many", "kinds", "most"]) (sc := defScope s_greatest_answering) (scope := ({ kind := .function, names := [(".0", .local), ("kinds", .local), ("most", .local), ("many", .free)], isGenerator := false, isCoroutine := false } : Scope)) (by decide +kernel)) (fun _ _ _ _ _ => (show PG _ _ (gTup K 2 _) from pg_tup rfl (pgs_cons (pg_name (i := 2) sc_greatest_answering.nd rfl (Or.inl rfl) (Or.inr rfl)) (pgs_cons (pg_name (i := 3) sc_greatest_answering.nd rfl (Or.inl rfl) (Or.inr rfl)) pgs_nil)))) (fun _ _ _ _ _ => (pts_one (pt_cmpR op_ge (pv 3) (pv 1) (nomark _)))) (fun _ _ _ _ _ => (pv 2))) pa_nil) (pk_cons pe_int pk_nil)))), ?_⟩
  have len : ((tabl M f).map V.int).length = M := by rw [List.length_map, tabl_len]
  walk_at "r"
  refine Jv.r_ckw ?_
  walk_at "r"
  refine Jv.lcEnP (xs := (tabl M f).map V.int) (fun PP hP => by walk_at "r"; exact hP) (Jv.sqL_at hc) (by decide) (by decide) (fun j => decide (m ≤ f (j + 1))) (fun j => .int (1 + (j : Nat))) (by omega) (fun _ _ => rfl) (fun i v H1 hv s1 R hR => ?_) (fun i v H1 hv s1 PP hP => ?_) (fun D H1 s1 hD e1 => ?_)
  · obtain ⟨_, rfl⟩ := tabl_get hv
    walk_at "r"
    have := hR _ (Same.refl _)
    rw [show decide (m ≤ f (i + 1)) = decide (((f (i + 1) : Nat) : Int) ≥ (m : Int)) from decide_eq_decide.mpr (by omega)] at this
    exact this
  · walk_at "r"
    exact hP _ (Same.refl _)
  · rw [len, rN_range an] at e1
    walk_at "r"
    have e2 : (List.range (rN M f m)).map (fun j => V.int (1 + (j : Nat))) = ((List.range (rN M f m)).map fun j => (1 + (j : Nat) : Int)).map V.int := by rw [List.map_map]; rfl
    rw [e2] at e1
    refine ⟨.ref D, .int 0, (List.range (rN M f m)).map fun j => (1 + (j : Nat) : Int), rfl, rfl, ⟨D, rfl, .inl (Jv.sqL_at e1)⟩, fun e => ?_, fun x hx hy => ?_⟩
    · have := congrArg List.length e
      simp at this
      have := q H1 s1
      rename_i z
      rw [z] at this
      exact this
    · obtain ⟨j, hj, rfl⟩ := List.mem_map.mp hx
      have hj := List.mem_range.mp hj
      have := hy (1 + (rN M f m - 1 : Nat)) (List.mem_map.mpr ⟨rN M f m - 1, List.mem_range.mpr (by omega), rfl⟩)
      have := q H1 s1
      rw [show (1 + (j : Nat) : Int) = (rN M f m : Nat) by omega]
      exact this
theorem callsD_at {K : PySem.W.Frag} {H : Hp} {M k : Nat} {bs : List Bool} {vs : List V} {v : V} (al : Jv.DvAll K H vs (callsD M bs)) (h : vs[k]? = some v) : ∃ g b, (gM M bs)[k]? = some g ∧ v = .ref b ∧ H b = some (.lst ((tabl M fun m => rN M g m).map V.int)) := by
  have hk : k < (gM M bs).length := by
    have := (List.getElem?_eq_some_iff.mp h).1
    have l := al.len
    unfold callsD at l
    rw [List.length_map] at l
    omega
  obtain ⟨v2, h2, dv⟩ := al.of (i := k) (d := iD (tabl M fun m => rN M (gM M bs)[k] m)) (by unfold callsD; rw [List.getElem?_map, List.getElem?_eq_getElem hk]; rfl)
  rw [h] at h2
  cases h2
  obtain ⟨b, rfl, hb⟩ := iD_at dv
  exact ⟨_, b, List.getElem?_eq_getElem hk, rfl, hb⟩
theorem rev_at {A : List Bool} {i : Nat} {x : V} (h : (bV A).reverse[i]? = some x) : ∃ b bs, A.drop (A.length - i) = bs ∧ A.drop (A.length - (i + 1)) = b :: bs ∧ x = .int (own b) := by
  have hi : i < A.length := by
    have := (List.getElem?_eq_some_iff.mp h).1
    rw [List.length_reverse, bV_len] at this
    exact this
  rw [List.getElem?_reverse (by rw [bV_len]; exact hi), bV_len] at h
  obtain ⟨h1, rfl⟩ := bV_at h
  refine ⟨_, _, rfl, ?_, rfl⟩
  rw [show A.length - (i + 1) = A.length - 1 - i by omega, getD_drop h1, show A.length - 1 - i + 1 = A.length - i by omega]
theorem tabs_len {M : Nat} : ∀ {A : List Bool}, (tabsD M A).length = A.length
  | [] => rfl
  | b :: bs => by simp [tabsD, tabs_len (A := bs)]
theorem calls_len {M : Nat} {A : List Bool} : (callsD M A).length = A.length := by unfold callsD; rw [List.length_map, gM_len]
theorem ok_both_tables (T : Tx) (O : Ok K mg T) : FnOk P w K mg base CX0 2 T.f_both_tables T.d_both_tables ["allowed", "most"] (sp_both_tables K) := by
  refine O.F_both_tables.ok sc_both_tables (fun vs H Q E h => by obtain ⟨_, _, _, rfl, _⟩ := h; rfl) (fun cdv A0 outer s H vs Q E hr h => ?_)
  obtain ⟨a, A, M, rfl, ha, fewA, fewM, q⟩ := h
  refine ⟨_, (pss_cons (ps_set (i := 2) sc_both_tables.nd rfl (Or.inr rfl) (pe_lst pa_nil))
  (pss_cons (ps_set (i := 3) sc_both_tables.nd rfl (Or.inl rfl) (pe_lst pa_nil))
  (pss_cons (ps_for PassesOwn.never rfl (show PI _ _ _ (iList K _) from pi_list (show PE _ _ (tRevL K _) from pe_revL (pv 0))) (pg_name (i := 4) sc_both_tables.nd rfl (Or.inr rfl)) (pss_cons (ps_setLc (i := 5) (own := [("many", 7)]) (by rfl) sc_both_tables.nd rfl rfl (sw_true rfl rfl rfl (by decide +kernel)) (pi_range2 (by rfl) O.z_range (pa_cons pe_int (pa_cons (pe_op op_add (pv 1) pe_int) pa_nil))) (blkOk_by (own := [("many", 7)]) (N := ["allowed", "most", "calls", "found", "let", "splits", "counts", "many", "split", "call"]) (sc := defScope s_both_tables) (scope := ({ kind := .function, names := [(".0", .local), ("many", .cell), ("tuple", .globalImplicit), ("calls", .free), ("let", .free)], isGenerator := false, isCoroutine := false } : Scope)) (by decide +kernel)) (fun _ _ _ _ _ => (pg_name (i := 7) sc_both_tables.nd rfl (Or.inr rfl))) (fun _ _ _ _ _ => pts_nil) (fun _ _ _ _ _ => (pe_op (r := rCatT K) op_catT (pe_tup (pa_cons (pe_ifExp (pt_cmpR op_eq (pv 7) pe_int (nomark _)) (pv 4) pe_int) pa_nil)) (pe_callTy (r := Jv.rTupOf K) call_tuple_of (by rfl) O.z_tuple (by decide +kernel) (pa_cons (pe_lc (own := [("call", 9)]) (by rfl) sc_both_tables.nd (show PI _ _ _ (iList K _) from pi_list (pv 2)) (blkOk_by (own := [("call", 9)]) (N := ["allowed", "most", "calls", "found", "let", "splits", "counts", "many", "split", "call"]) (sc := ({ kind := .function, names := [(".0", .local), ("many", .cell), ("tuple", .globalImplicit), ("calls", .cell), ("let", .cell)], isGenerator := false, isCoroutine := false } : Scope)) (scope := ({ kind := .function, names := [(".0", .local), ("call", .local), ("many", .free)], isGenerator := false, isCoroutine := false } : Scope)) (by decide +kernel)) (fun _ _ _ _ _ => (pg_name (i := 9) sc_both_tables.nd rfl (Or.inl rfl))) (fun _ _ _ _ _ => pts_nil) (fun _ _ _ _ _ => (pe_ix (r := rIxL K) ix_list (pv 9) (pe_op op_sub (pv 7) pe_int) (fun _ _ => rfl)))) pa_nil)))))
  (pss_cons (ps_set (i := 6) sc_both_tables.nd rfl (Or.inr rfl) (pe_lc (own := [("split", 8)]) (by rfl) sc_both_tables.nd (show PI _ _ _ (iList K _) from pi_list (pv 5)) (blkOk_by (own := [("split", 8)]) (N := ["allowed", "most", "calls", "found", "let", "splits", "counts", "many", "split", "call"]) (sc := defScope s_both_tables) (scope := ({ kind := .function, names := [(".0", .local), ("split", .local), ("sum", .globalImplicit)], isGenerator := false, isCoroutine := false } : Scope)) (by decide +kernel)) (fun _ _ _ _ _ => (pg_name (i := 8) sc_both_tables.nd rfl (Or.inl rfl))) (fun _ _ _ _ _ => pts_nil) (fun _ _ _ _ _ => (pe_callB (r := Jv.rSumA K) (Jv.cr_sumA rfl) (by rfl) O.z_sum (by decide +kernel) (pa_cons (pv 8) pa_nil)))))
  (pss_cons (ps_set (i := 2) sc_both_tables.nd rfl (Or.inr rfl) (pe_op op_cat (pe_lst (pa_cons (pe_lc (own := [("many", 7)]) (by rfl) sc_both_tables.nd (pi_range2 (by rfl) O.z_range (pa_cons pe_int (pa_cons (pe_op op_add (pv 1) pe_int) pa_nil))) (blkOk_by (own := [("many", 7)]) (N := ["allowed", "most", "calls", "found", "let", "splits", "counts", "many", "split", "call"]) (sc := defScope s_both_tables) (scope := ({ kind := .function, names := [(".0", .local), ("many", .local), ("greatest_answering", .globalImplicit), ("counts", .free)], isGenerator := false, isCoroutine := false } : Scope)) (by decide +kernel)) (fun _ _ _ _ _ => (pg_name (i := 7) sc_both_tables.nd rfl (Or.inl rfl))) (fun _ _ _ _ _ => pts_nil) (fun _ _ _ _ _ => (pe_call (ok_greatest_answering T O) (hr.mono (by decide)) (by rfl) O.m_greatest_answering O.F_greatest_answering.kp O.b_greatest_answering .nil pass0 (pa_cons (pv 6) (pa_cons (pv 7) pa_nil))))) pa_nil)) (pv 2)))
  (pss_one (ps_set (i := 3) sc_both_tables.nd rfl (Or.inl rfl) (pe_op op_cat (pe_lst (pa_cons (pv 5) pa_nil)) (pv 3))))))))
  (pss_one (ps_ret (pv 3)))))), ?_⟩
  walk_at "r"
  intro p1 hp1
  have s1 := Jv.same_new (u := .lst []) hp1
  walk_at "r"
  intro p2 hp2
  have s2 := s1.trans (Jv.same_new (u := .lst []) hp2)
  have e1 : upd (upd H p1 (.lst [])) p2 (.lst []) p1 = some (.lst []) := Jv.same_new hp2 _ _ upd_same
  have e2 : upd (upd H p1 (.lst [])) p2 (.lst []) p2 = some (.lst []) := upd_same
  generalize upd (upd H p1 (.lst [])) p2 (.lst []) = H2 at s2 e1 e2 ⊢
  walk_at "r"
  refine Jv.r_revL ?_
  walk_at "r"
  refine ⟨a, _, rfl, Jv.sqL_at (s2 _ _ ha), fun p3 hp3 => ?_⟩
  have s3 := s2.trans (Jv.same_new (u := .lst (bV A).reverse) hp3)
  have e13 := Jv.same_new (u := .lst (bV A).reverse) hp3 _ _ e1
  have e23 := Jv.same_new (u := .lst (bV A).reverse) hp3 _ _ e2
  have e33 : upd H2 p3 (.lst (bV A).reverse) p3 = some (.lst (bV A).reverse) := upd_same
  generalize upd H2 p3 (.lst (bV A).reverse) = H3 at s3 e13 e23 e33 ⊢
  refine ⟨p3, rfl, ⟨_, Jv.sqL_at e33⟩, ?_⟩
  refine for_list (xs := (bV A).reverse) (fun i σ H' => ∃ c f y4 y5 y6 vs ws, σ = [some (.ref a), some (.int M), some (.ref c), some (.ref f), y4, y5, y6, none, none, none] ∧ Same H3 H' ∧ H' c = some (.lst vs) ∧ Jv.DvAll K H' vs (callsD M (A.drop (A.length - i))) ∧ H' f = some (.lst ws) ∧ Jv.DvAll K H' ws (tabsD M (A.drop (A.length - i))))
    ⟨p1, p2, _, _, _, [], [], rfl, Same.refl _, e13, by rw [Nat.sub_zero, List.drop_length]; exact .nil, e23, by rw [Nat.sub_zero, List.drop_length]; exact .nil⟩ ?_ ?_ ?_
  · rintro i σ H' _ ⟨c, f, y4, y5, y6, vs, ws, rfl, s, _⟩
    exact Jv.sqL_at (s _ _ e33)
  · rintro i x σ H' hx ⟨c, f, y4, y5, y6, vs, ws, rfl, s4, hc, dc, hf, df⟩
    obtain ⟨b, bs, eb, eb2, rfl⟩ := rev_at hx
    rw [eb] at dc df
    rw [eb2]
    have few : (b :: bs).length ≤ 9 := by rw [← eb2, List.length_drop]; omega
    rw [List.length_cons] at few
    have lc := dc.len
    have lf := df.len
    rw [calls_len] at lc
    rw [tabs_len] at lf
    walk_at "r"
    refine Jv.lcDn1 (K := K) (n := M) (N := []) (fun PP hP => by walk_at "r"; exact hP) rfl (fun t m => by cases m) ((List.range M).map fun i => tD (spl M b bs (i + 1))) (by simp) (by omega) (fun k e D H5 hk he s5 hh hD PP hP => ?_) (fun D ys H5 s5 hD e5 al _ => ?_)
    · rw [List.getElem?_map, List.getElem?_range hk] at he
      cases he
      obtain ⟨oD, eD⟩ := hh D List.mem_cons_self
      walk_at "r"
      refine Jv.r_ifx (.int (if k + 1 = 1 then own b else 0)) (fun z Q' k' => ?_) (fun z Q' k' => ?_) ?_
      · have z := V.int.inj (of_decide_eq_true z)
        rw [if_pos (by omega)] at k'
        walk_at "r"
        exact k'
      · have z := of_decide_eq_false z
        rw [if_neg (fun e => z (by rw [show (1 + (k : Nat) : Int) = 1 by omega]))] at k'
        walk_at "r"
        exact k'
      walk_at "r"
      intro p hp
      have s6 := Jv.same_new (u := .tup [.int (if k + 1 = 1 then own b else 0)]) hp
      have np : p ≠ D := fun z => by rw [z, eD] at hp; cases hp
      have ep : upd H5 p (.tup [.int (if k + 1 = 1 then own b else 0)]) p = some (.tup [.int (if k + 1 = 1 then own b else 0)]) := upd_same
      generalize upd H5 p (.tup [.int (if k + 1 = 1 then own b else 0)]) = H6 at s6 ep ⊢
      walk_at "r"
      refine Jv.lcFl (xs := vs) (i := 2) (by rfl) (Jv.sqL_at (s6 _ _ (s5 _ _ hc))) (fun j => .int (rN M ((gM M bs).getD j fun _ => 0) (k + 1) : Nat)) (by omega) (fun j v H7 hv s7 P7 hP7 => ?_) (fun D7 H7 s7 hD7 e7 => ?_)
      · obtain ⟨g, q7, hg, rfl, hq⟩ := callsD_at (dc.same ((s5.trans s6).trans s7)) hv
        walk_at "r"
        refine Jv.r_ixL (Jv.sqL_at hq) (Jv.at_i (by omega) (by rw [show ((1 + (k : Nat) : Int) - 1).toNat = k by omega, List.getElem?_map, tabl_at hk]; rfl)) ?_
        have := hP7 _ (Same.refl _)
        rw [List.getD_eq_getElem?_getD, hg] at this
        exact this
      · walk_at "r"
        have f7 : (List.range vs.length).map (fun j => V.int (rN M ((gM M bs).getD j fun _ => 0) (k + 1) : Nat)) = ((gM M bs).map fun g => ((rN M g (k + 1) : Nat) : Int)).map V.int := by
          rw [lc]
          refine List.ext_getElem? fun j => ?_
          by_cases hj : j < bs.length
          · have hj2 : j < (gM M bs).length := by rw [gM_len]; exact hj
            rw [List.getElem?_map, List.getElem?_range hj, List.getElem?_map, List.getElem?_map, List.getElem?_eq_getElem hj2]
            simp only [Option.map_some, List.getD_eq_getElem?_getD, List.getElem?_eq_getElem hj2, Option.getD_some]
          · rw [List.getElem?_eq_none (by simp; omega), List.getElem?_eq_none (by simp [gM_len]; omega)]
        rw [f7] at e7
        refine Jv.r_tupOfL (Jv.sqL_at e7) fun t8 ht8 => ?_
        have s8 := Jv.same_new (u := .tup (((gM M bs).map fun g => ((rN M g (k + 1) : Nat) : Int)).map V.int)) ht8
        refine ⟨p, t8, _, _, rfl, rfl, Jv.sqT_at (s8 _ _ (s7 _ _ ep)), Jv.sqT_at upd_same, by simp, Jv.small_of (by simp [gM_len]; omega), fun e => ?_, fun e p9 hp9 => ?_⟩
        · refine hP _ _ ((s6.trans s7).trans s8) (.tup (xs := (spl M b bs (k + 1)).map V.int) (Jv.sqT_at (Jv.hide_one np ?_)) (Jv.dv_ints _))
          rw [s8 _ _ (s7 _ _ ep)]
          unfold spl
          rw [List.map_cons, e]
        · have n9 : p9 ≠ D := fun z => by rw [z, s8 _ _ (s7 _ _ (s6 _ _ eD))] at hp9; cases hp9
          exact hP _ _ (((s6.trans s7).trans s8).trans (Jv.same_new hp9)) (.tup (xs := (spl M b bs (k + 1)).map V.int) (Jv.sqT_at (Jv.hide_one n9 upd_same)) (Jv.dv_ints _))
    · rw [Jv.hide_nil] at al
      have ly := al.len
      rw [List.length_map, List.length_range] at ly
      walk_at "r"
      refine Jv.lcFl (xs := ys) (i := 5) (by rfl) (Jv.sqL_at e5) (fun j => .int (gT M (b :: bs) (j + 1) : Nat)) (by omega) (fun j v H6 hv s6 PP hP => ?_) (fun D6 H6 s6 hD6 e6 => ?_)
      · have hj : j < M := by rw [← ly]; exact (List.getElem?_eq_some_iff.mp hv).1
        obtain ⟨v2, hv2, dv⟩ := (al.same s6).of (i := j) (d := tD (spl M b bs (j + 1))) (by rw [List.getElem?_map, List.getElem?_range hj]; rfl)
        rw [hv] at hv2
        cases hv2
        obtain ⟨t, rfl, ht⟩ := tD_at dv
        walk_at "r"
        refine ⟨.ref t, _, rfl, ⟨t, rfl, .inr ht⟩, ?_⟩
        rw [spl_sum]
        exact hP _ (Same.refl _)
      · have f6 : (List.range ys.length).map (fun j => V.int (gT M (b :: bs) (j + 1) : Nat)) = (tabl M (gT M (b :: bs))).map V.int := by
          rw [ly]; unfold tabl; rw [List.map_map]; rfl
        rw [f6] at e6
        walk_at "r"
        refine Jv.lcFn1 (n := M) (fun PP hP => by walk_at "r"; exact hP) rfl (fun j => .int (rN M (gT M (b :: bs)) (j + 1) : Nat)) (by omega) (fun j H7 hj s7 PP hP => ?_) (fun D7 H7 s7 hD7 e7 => ?_)
        · walk_at "r"
          refine ⟨D6, M, j + 1, _, by rw [show (1 + (j : Nat) : Int) = ((j + 1 : Nat) : Int) by omega]; rfl, s7 _ _ e6, gT_ant, fewM, fun H8 s8 => hP _ s8⟩
        · have f7 : (List.range M).map (fun j => V.int (rN M (gT M (b :: bs)) (j + 1) : Nat)) = (tabl M fun m => rN M (gT M (b :: bs)) m).map V.int := by
            unfold tabl; rw [List.map_map]; rfl
          rw [f7] at e7
          have s47 := (s5.trans s6).trans s7
          walk_at "r"
          intro p8 hp8
          have s8 := Jv.same_new (u := .lst [.ref D7]) hp8
          walk_at "r"
          refine Jv.r_cat upd_same (s8 _ _ (s47 _ _ hc)) (by simp; omega) fun c9 H9 hc9 s9 e9 => ?_
          walk_at "r"
          intro p10 hp10
          have s10 := Jv.same_new (u := .lst [.ref D]) hp10
          have s810 := (s8.trans s9).trans s10
          walk_at "r"
          refine Jv.r_cat upd_same (s810 _ _ (s47 _ _ hf)) (by simp; omega) fun f11 H11 hf11 s11 e11 => ?_
          have s811 := s810.trans s11
          refine ⟨c9, f11, _, _, _, _, _, rfl, (s4.trans s47).trans s811, s11 _ _ (s10 _ _ e9), ?_, e11, ?_⟩
          · exact .cons (iD_of (s811 _ _ e7)) (dc.same (s47.trans s811))
          · exact .cons (.lst (s811 _ _ (s7 _ _ (s6 _ _ e5))) (al.same ((s6.trans s7).trans s811))) (df.same (s47.trans s811))
  · rintro σ H' ⟨c, f, y4, y5, y6, vs, ws, rfl, s4, hc, dc, hf, df⟩
    walk_at "r"
    rw [List.length_reverse, bV_len, Nat.sub_self, List.drop_zero] at df
    exact q _ _ (s3.trans s4) (.lst hf df)
end
end K39

namespace K39
open PySem PySem.Spec PyProof.Rows L2
/-! ### splits, staircases, the least ladder -/
def MM (L : Nat) : Nat := (tc L).toNat
theorem MM_is (L : Nat) : ((MM L : Nat) : Int) = tc L := by have := (tc_step L).1; unfold MM; omega
theorem MM_le {L : Nat} (h : L ≤ 8) : MM L ≤ 55 := by
  have h1 := tc_le h
  have h2 : tc 8 = 55 := by decide
  have := MM_is L
  omega
theorem tc_far {L : Nat} (h : L ≤ 8) : tc L ≤ (399 : Nat) := by
  have h1 := tc_le h
  have h2 : tc 8 = 55 := by decide
  omega
def spA (M : Nat) (A : List Bool) (m : Nat) : List Int := match A with
  | [] => []
  | b :: bs => spl M b bs m
theorem spA_sum {M m : Nat} {A : List Bool} (h : A ≠ []) : (spA M A m).sum = (gT M A m : Nat) := by
  cases A with
  | nil => exact absurd rfl h
  | cons b bs => exact spl_sum
theorem spA_same {L m : Nat} {A : List Bool} (hL : L ≤ 8) (h : A.length = L + 1) (hm : 1 ≤ m) : spA (MM L) A m = spA 399 A m := by
  cases A with
  | nil => rfl
  | cons b bs =>
    rw [List.length_cons] at h
    have e : bs.length = L := by omega
    exact spl_same hm (by rw [e, MM_is]; exact Int.le_refl _) (by rw [e]; exact tc_far hL)
theorem spA_zero {L m : Nat} {A : List Bool} (hL : L ≤ 8) (h : A.length = L + 1) (hm : MM L < m) : spA 399 A m = List.replicate (L + 1) 0 := by
  cases A with
  | nil => simp at h
  | cons b bs =>
    rw [List.length_cons] at h
    have e : bs.length = L := by omega
    have := spl_zero (M := 399) (m := m) (b := b) (bs := bs) (by rw [e]; exact tc_far hL) (by rw [e, ← MM_is]; omega)
    rw [e] at this
    exact this
theorem gA_same {L m : Nat} {A : List Bool} (hL : L ≤ 8) (h : A.length = L + 1) (hm : 1 ≤ m) : gT (MM L) A m = gT 399 A m := by
  cases A with
  | nil => rfl
  | cons b bs =>
    rw [List.length_cons] at h
    have e : bs.length = L := by omega
    exact gT_same hm (by rw [e, MM_is]; exact Int.le_refl _) (by rw [e]; exact tc_far hL)
theorem gA_far {L m : Nat} {A : List Bool} (hL : L ≤ 8) (h : A.length = L + 1) (hm : MM L < m) : gT 399 A m = 0 := by
  have hA : A ≠ [] := fun e => by subst e; simp at h
  have := spA_sum (M := 399) (m := m) hA
  rw [spA_zero hL h hm] at this
  have z : (List.replicate (L + 1) (0 : Int)).sum = 0 := by
    induction (L + 1) with
    | zero => rfl
    | succ n ih => rw [List.replicate_succ, List.sum_cons, ih]; rfl
  rw [z] at this
  omega
theorem EndsOf.ne {d : PyData} {L : Nat} {A : List Bool} (h : EndsOf d L A) : A ≠ [] := fun e => by have := h.len; subst e; simp at this
def sp_splits_first (K : PySem.W.Frag) : Sp := fun vs H Q _ => ∃ (L : Nat) (x : V) (d : PyData) (A : List Bool), vs = [.int L, x] ∧ L ≤ 8 ∧ Jv.Dw K H x d ∧ EndsOf d L A ∧
  ∀ v H', Same H H' → Jv.Dv K H' v (.list ((List.range (MM L)).map fun i => tD (spA 399 A (i + 1)))) → Q v H'
def sp_split_for (K : PySem.W.Frag) : Sp := fun vs H Q _ => ∃ (L q : Nat) (x : V) (d : PyData) (A : List Bool), vs = [.int L, .int q, x] ∧ L ≤ 8 ∧ 1 ≤ q ∧ Jv.Dw K H x d ∧ EndsOf d L A ∧
  ∀ t H', Same H H' → SqT K H' t ((spA 399 A q).map V.int) → Q (.ref t) H'
/-- what all that take a ladder and ends answer -/
def Door (K : PySem.W.Frag) (T : Tx) (H : Hp) (vl ve : V) (dns : List PyData) (E : XK) (good : Nat → List Bool → Prop) : Prop :=
  ∃ dl de, Jv.Dv K H vl dl ∧ Jv.Dw K H ve de ∧
    ((Jv.wholeD dl (.int 0) (.int 8) = false ∧ ∀ H', Same H H' → E (.ref T.C_BadLadder) none H') ∨ ∃ L : Nat, dl = .int L ∧ L ≤ 8 ∧
      ((BadE de L ∧ ∀ H', Same H H' → E (.ref T.C_BadEnds) none H') ∨ ∃ A, EndsOf de L A ∧
        ((dns.all (fun d => Jv.wholeD d (.int 1) .non) = false ∧ ∀ H', Same H H' → E (.ref T.C_BadKinds) none H') ∨ (dns.all (fun d => Jv.wholeD d (.int 1) .non) = true ∧ good L A))))
theorem Door.up {K : PySem.W.Frag} {T : Tx} {H H1 : Hp} {vl ve : V} {dns : List PyData} {E : XK} {g g' : Nat → List Bool → Prop} (h : Door K T H vl ve dns E g) (s : Same H H1)
    (f : ∀ (L : Nat) (A : List Bool) (de : PyData), vl = .int L → L ≤ 8 → Jv.Dw K H ve de → EndsOf de L A → dns.all (fun d => Jv.wholeD d (.int 1) .non) = true → g L A → g' L A) : Door K T H1 vl ve dns E g' := by
  obtain ⟨dl, de, hl, he, qq⟩ := h
  refine ⟨dl, de, hl.same s, he.same s, ?_⟩
  rcases qq with ⟨e, k⟩ | ⟨L, rfl, hL, ⟨e, k⟩ | ⟨A, hA, ⟨e, k⟩ | ⟨e, k⟩⟩⟩
  · exact .inl ⟨e, fun H' s' => k _ (s.trans s')⟩
  · exact .inr ⟨L, rfl, hL, .inl ⟨e, fun H' s' => k _ (s.trans s')⟩⟩
  · exact .inr ⟨L, rfl, hL, .inr ⟨A, hA, .inl ⟨e, fun H' s' => k _ (s.trans s')⟩⟩⟩
  · obtain rfl : vl = .int L := by cases hl; rfl
    exact .inr ⟨L, rfl, hL, .inr ⟨A, hA, .inr ⟨e, f L A de rfl hL he hA e k⟩⟩⟩
def sp_check (K : PySem.W.Frag) (T : Tx) : Sp := fun vs H Q E => ∃ (vl ve : V) (b : Addr) (vns : List V) (dns : List PyData), vs = [vl, ve, .ref b] ∧ SqL K H b vns ∧ Jv.DvAll K H vns dns ∧ dns.length ≤ 5 ∧ Door K T H vl ve dns E fun _ _ => ∀ H', Same H H' → Q .non H'
def sp_both_split (K : PySem.W.Frag) (T : Tx) : Sp := fun vs H Q E => ∃ (vl vq ve : V) (dq : PyData), vs = [vl, vq, ve] ∧ Jv.Dv K H vq dq ∧ Door K T H vl ve [dq] E fun _ A => ∀ q : Nat, vq = .int q → 1 ≤ q → ∀ t H', Same H H' → SqT K H' t ((spA 399 A q).map V.int) → Q (.ref t) H'
def sp_most_both (K : PySem.W.Frag) (T : Tx) : Sp := fun vs H Q E => ∃ (vl vq ve : V) (dq : PyData), vs = [vl, vq, ve] ∧ Jv.Dv K H vq dq ∧ Door K T H vl ve [dq] E fun _ A => ∀ q : Nat, vq = .int q → 1 ≤ q → ∀ H', Same H H' → Q (.int (gT 399 A q : Nat)) H'
def sp_serves_both (K : PySem.W.Frag) (T : Tx) : Sp := fun vs H Q E => ∃ (vl vp vq ve : V) (dp dq : PyData), vs = [vl, vp, vq, ve] ∧ Jv.Dv K H vp dp ∧ Jv.Dv K H vq dq ∧ Door K T H vl ve [dp, dq] E fun _ A => ∀ p q : Nat, vp = .int p → vq = .int q → 1 ≤ p → 1 ≤ q → ∀ H', Same H H' → Q (.bl (decide (p ≤ gT 399 A q))) H'
def sp_staircase (K : PySem.W.Frag) (T : Tx) : Sp := fun vs H Q E => ∃ (vl ve : V), vs = [vl, ve] ∧ Door K T H vl ve [] E fun _ A => ∀ t H', Same H H' → Jv.Dv K H' (.ref t) (.tuple ((crn 399 (gT 399 A)).reverse.map Jv.pairD)) → Q (.ref t) H'
def rep (n : Nat) : List Bool := List.replicate n true
def sp_least_both (K : PySem.W.Frag) (T : Tx) : Sp := fun vs H Q E => ∃ (vp vq : V) (dp dq : PyData), vs = [vp, vq] ∧ Jv.Dv K H vp dp ∧ Jv.Dv K H vq dq ∧
  (((Jv.wholeD dp (.int 1) (.int 8) && Jv.wholeD dq (.int 1) (.int 8)) = false ∧ ∀ H', Same H H' → E (.ref T.C_BadKinds) none H') ∨
    ∃ p q : Nat, dp = .int p ∧ dq = .int q ∧ 1 ≤ p ∧ p ≤ 8 ∧ 1 ≤ q ∧ q ≤ 8 ∧ ∀ (n : Nat) H', n ≤ 8 → p ≤ gT 399 (rep (n + 1)) q → (∀ k, k < n → gT 399 (rep (k + 1)) q < p) → Same H H' → Q (.int n) H')
theorem whole1 {d : PyData} (h : Jv.wholeD d (.int 1) .non = true) : ∃ q : Nat, d = .int q ∧ 1 ≤ q := by
  cases d with
  | int z =>
    have : 1 ≤ z := by simpa [Jv.wholeD, Jv.loOk, Jv.hiOk] using h
    exact ⟨z.toNat, by rw [Int.toNat_of_nonneg (by omega)], by omega⟩
  | _ => simp [Jv.wholeD] at h
theorem dv_nat {K : PySem.W.Frag} {H : Hp} {v : V} {q : Nat} (h : Jv.Dv K H v (.int q)) : v = .int q := by cases h; rfl
section
variable {P : Program} {w : World} {K : PySem.W.Frag} {mg : Str → Option Value} {base : Heap}
theorem ok_splits_first (T : Tx) (O : Ok K mg T) : FnOk P w K mg base (L2.CX P w) 4 T.f_splits_first T.d_splits_first ["ladder", "ends"] (sp_splits_first K) := by
  refine O.F_splits_first.okX sc_splits_first (fun vs H Q E h => by obtain ⟨_, _, _, _, rfl, _⟩ := h; rfl) (fun cdv A0 outer s H vs Q E hr h => ?_)
  obtain ⟨L, x, d, A, rfl, hL, hx, hA, q⟩ := h
  refine ⟨_, (pss_one (ps_ret (pe_ix (r := rIxL K) ix_list (pe_call (ok_both_tables T O) (hr.mono (by decide)) (by rfl) O.m_both_tables O.F_both_tables.kp O.b_both_tables .nil pass0 (pa_cons (pe_callS (ok_allowed_ends T O) (hr.mono (by decide)) (by rfl) O.m_allowed_ends O.F_allowed_ends.kp O.b_allowed_ends (fun σ => passAt (takes_of rfl rfl rfl rfl) σ) (pa_cons (pv 0) (pa_cons (pv 1) pa_nil))) (pa_cons (pe_callS (ok_told_count T O) (hr.mono (by decide)) (by rfl) O.m_told_count O.F_told_count.kp O.b_told_count (fun σ => passAt (takes_of rfl rfl rfl rfl) σ) (pa_cons (pv 0) pa_nil)) pa_nil))) pe_int (fun _ _ => rfl)))), ?_⟩
  have lenA := hA.len
  have := MM_le hL
  walk_at "r"
  refine ⟨L, x, d, rfl, by omega, hx, .inr ⟨A, hA, fun a H1 s1 na ha => ?_⟩⟩
  walk_at "r"
  refine ⟨L, rfl, by omega, fun H2 s2 => ?_⟩
  walk_at "r"
  refine ⟨a, A, MM L, by rw [MM_is]; rfl, s2 _ _ ha, by omega, by omega, fun v H3 s3 dv => ?_⟩
  cases A with
  | nil => exact absurd rfl hA.ne
  | cons b bs =>
    cases dv with
    | lst hv al =>
      cases al with
      | cons d0 rest =>
        walk_at "r"
        refine Jv.r_ixL (Jv.sqL_at hv) (Jv.at_i (by decide) (by rfl)) ?_
        refine q _ _ ((s1.trans s2).trans s3) ?_
        have : splsD (MM L) b bs = .list ((List.range (MM L)).map fun i => tD (spA 399 (b :: bs) (i + 1))) := by
          unfold splsD
          congr 1
          refine List.map_congr_left fun i _ => ?_
          rw [← spA_same hL lenA (by omega)]; rfl
        rw [← this]
        exact d0
theorem ok_split_for (T : Tx) (O : Ok K mg T) : FnOk P w K mg base (L2.CX P w) 5 T.f_split_for T.d_split_for ["ladder", "q", "ends"] (sp_split_for K) := by
  refine O.F_split_for.okX sc_split_for (fun vs H Q E h => by obtain ⟨_, _, _, _, _, rfl, _⟩ := h; rfl) (fun cdv A0 outer s H vs Q E hr h => ?_)
  obtain ⟨L, m, x, d, A, rfl, hL, hm, hx, hA, q⟩ := h
  refine ⟨_, (pss_cons (ps_set (i := 3) sc_split_for.nd rfl (Or.inl rfl) (pe_callS (ok_splits_first T O) (hr.mono (by decide)) (by rfl) O.m_splits_first O.F_splits_first.kp O.b_splits_first (fun σ => passAt (takes_of rfl rfl rfl rfl) σ) (pa_cons (pv 0) (pa_cons (pv 2) pa_nil))))
  (pss_one (ps_ret (pe_ifExp (pt_cmpR op_le (pv 1) (pe_callB (r := Jv.rLenK K) Jv.cr_len (by rfl) O.z_len (by decide +kernel) (pa_cons (pv 3) pa_nil)) (nomark _)) (pe_ix (r := rIxL K) ix_list (pv 3) (pe_op op_sub (pv 1) pe_int) (fun _ _ => rfl)) (pe_op (r := Jv.rRepA K) Jv.op_repA (pe_tup (pa_cons pe_int pa_nil)) (pe_op op_add (pv 0) pe_int)))))), ?_⟩
  have := MM_le hL
  walk_at "r"
  refine ⟨L, x, d, A, rfl, hL, hx, hA, fun v H1 s1 dv => ?_⟩
  cases dv with
  | @lst S vs _ hv al =>
    have ln := al.len
    rw [List.length_map, List.length_range] at ln
    walk_at "r"
    refine Jv.r_dec (fun z => ?_) (fun z => ?_)
    · rw [ln] at z
      obtain ⟨v2, h2, dv⟩ := al.of (i := m - 1) (d := tD (spA 399 A (m - 1 + 1))) (by rw [List.getElem?_map, List.getElem?_range (by omega)]; rfl)
      obtain ⟨t, rfl, ht⟩ := tD_at dv
      walk_at "r"
      refine Jv.r_ixL (Jv.sqL_at hv) (Jv.at_i (by omega) (by rw [show ((m : Int) - 1).toNat = m - 1 by omega]; exact h2)) ?_
      rw [show m - 1 + 1 = m by omega] at ht
      exact q _ _ s1 ht
    · rw [ln] at z
      have e := spA_zero hL hA.len (m := m) (by omega)
      walk_at "r"
      intro p hp
      walk_at "r"
      by_cases L0 : L = 0
      · subst L0
        refine .inl ⟨p, _, rfl, rfl, Jv.sqT_at upd_same, ?_⟩
        exact q _ _ (s1.trans (Jv.same_new hp)) (Jv.sqT_at (by rw [upd_same, e]; rfl))
      · refine .inr ⟨p, _, _, rfl, rfl, Jv.sqT_at upd_same, by simp, by omega, by omega, by simp, fun p2 hp2 => ?_⟩
        refine q _ _ ((s1.trans (Jv.same_new hp)).trans (Jv.same_new hp2)) (Jv.sqT_at ?_)
        rw [upd_same, e, rep_flat, List.map_replicate, show ((L : Int) + 1).toNat = L + 1 by omega]
theorem ok_check_numbers (T : Tx) (O : Ok K mg T) : FnOk P w K mg base (L2.CX P w) 3 T.f_check_numbers T.d_check_numbers ["ladder", "ends", "numbers"] (sp_check K T) := by
  refine O.F_check_numbers.okX sc_check_numbers (fun vs H Q E h => by obtain ⟨_, _, _, _, _, rfl, _⟩ := h; rfl) (fun cdv A0 outer s H vs Q E hr h => ?_)
  obtain ⟨vl, ve, b, vns, dns, rfl, hb, al, few, dl, de, hl, he, qq⟩ := h
  refine ⟨_, (pss_cons (ps_expr (pe_callS (ok_check_ladder T O) (hr.mono (by decide)) (by rfl) O.m_check_ladder O.F_check_ladder.kp O.b_check_ladder (fun σ => passAt (takes_of rfl rfl rfl rfl) σ) (pa_cons (pv 0) (pa_cons (pe_glob (v := .int (8)) (by rfl) O.c_BOTH_LADDER_MOST ⟨_, rfl⟩) pa_nil))))
  (pss_cons (ps_expr (pe_callS (ok_allowed_ends T O) (hr.mono (by decide)) (by rfl) O.m_allowed_ends O.F_allowed_ends.kp O.b_allowed_ends (fun σ => passAt (takes_of rfl rfl rfl rfl) σ) (pa_cons (pv 0) (pa_cons (pv 1) pa_nil))))
  (pss_one (ps_if (pt_not (pt_val (pe_callB (r := rAll K) (cr_all rfl) (by rfl) O.z_all (by decide +kernel) (pa_cons (pe_lc (own := [("number", 3)]) (by rfl) sc_check_numbers.nd (show PI _ _ _ (iList K _) from pi_list (pv 2)) (blkOk_by (own := [("number", 3)]) (N := ["ladder", "ends", "numbers", "number"]) (sc := defScope s_check_numbers) (scope := ({ kind := .function, names := [(".0", .local), ("number", .local), ("is_whole", .globalImplicit)], isGenerator := false, isCoroutine := false } : Scope)) (by decide +kernel)) (fun _ _ _ _ _ => (pg_name (i := 3) sc_check_numbers.nd rfl (Or.inl rfl))) (fun _ _ _ _ _ => pts_nil) (fun _ _ _ _ _ => (pe_call (ok_is_whole T O) (hr.mono (by decide)) (by rfl) O.m_is_whole O.F_is_whole.kp O.b1_is_whole.2 O.b1_is_whole.1 pass0 (pa_cons (pv 3) (pa_cons pe_int pa_nil))))) pa_nil)))) (pss_one (ps_raise rfl (takes_of rfl rfl rfl rfl) (Jv.pmk_own0 PySem.F.excBase_ValueError O.e_BadKinds.x O.m_BadKinds O.e_BadKinds.k (O.e_BadKinds.raises) (by rfl)))) pss_nil)))), ?_⟩
  walk_at "r"
  refine ⟨vl, dl, 8, rfl, hl, ?_⟩
  rcases qq with ⟨e, k⟩ | ⟨L, rfl, hL, qq⟩
  · exact .inr ⟨e, k⟩
  refine .inl ⟨whole_yes hL, ?_⟩
  obtain rfl : vl = .int L := by cases hl; rfl
  walk_at "r"
  refine ⟨L, ve, de, rfl, by omega, he, ?_⟩
  rcases qq with ⟨e, k⟩ | ⟨A, hA, qq⟩
  · exact .inl ⟨e, k⟩
  refine .inr ⟨A, hA, fun a H1 s1 na ha => ?_⟩
  walk_at "r"
  have lv := al.len
  refine Jv.lcFl (xs := vns) (i := 2) (by rfl) (s1.seq hb) (fun j => .bl (Jv.wholeD (dns.getD j .none) (.int 1) .non)) (by omega) (fun j v H2 hv s2 PP hP => ?_) (fun D H2 s2 hD e2 => ?_)
  · have hj : j < dns.length := by rw [← lv]; exact (List.getElem?_eq_some_iff.mp hv).1
    obtain ⟨v2, h2, dv⟩ := al.of (List.getElem?_eq_getElem hj)
    rw [hv] at h2
    cases h2
    walk_at "r"
    refine ⟨v, dns[j], .int 1, .non, rfl, dv.same (s1.trans s2), .inr ⟨_, rfl⟩, .inl rfl, ?_⟩
    rw [dv.whole]
    have := hP _ (Same.refl _)
    rw [List.getD_eq_getElem?_getD, List.getElem?_eq_getElem hj] at this
    exact this
  · have f2 : (List.range vns.length).map (fun j => V.bl (Jv.wholeD (dns.getD j .none) (.int 1) .non)) = (dns.map fun d => Jv.wholeD d (.int 1) .non).map V.bl := by
      rw [lv]
      refine List.ext_getElem? fun j => ?_
      by_cases hj : j < dns.length
      · rw [List.getElem?_map, List.getElem?_range hj, List.getElem?_map, List.getElem?_map, List.getElem?_eq_getElem hj]
        simp only [Option.map_some, List.getD_eq_getElem?_getD, List.getElem?_eq_getElem hj, Option.getD_some]
      · rw [List.getElem?_eq_none (by simp; omega), List.getElem?_eq_none (by simp; omega)]
    rw [f2] at e2
    walk_at "r"
    refine ⟨D, _, rfl, Jv.sqL_at e2, ?_⟩
    rw [show (dns.map fun d => Jv.wholeD d (.int 1) .non).all id = dns.all fun d => Jv.wholeD d (.int 1) .non by rw [List.all_map]; rfl]
    rcases qq with ⟨e, k⟩ | ⟨e, k⟩
    · rw [e]
      walk_at "r"
      exact k _ (s1.trans s2)
    · rw [e]
      walk_at "r"
      exact k _ (s1.trans s2)
theorem ok_both_split (T : Tx) (O : Ok K mg T) : FnOk P w K mg base (L2.CX P w) 6 T.f_both_split T.d_both_split ["ladder", "q", "ends"] (sp_both_split K T) := by
  refine O.F_both_split.okX sc_both_split (fun vs H Q E h => by obtain ⟨_, _, _, _, rfl, _⟩ := h; rfl) (fun cdv A0 outer s H vs Q E hr h => ?_)
  obtain ⟨vl, vq, ve, dq, rfl, hq, dr⟩ := h
  refine ⟨_, (pss_cons (ps_expr (pe_callS (ok_check_numbers T O) (hr.mono (by decide)) (by rfl) O.m_check_numbers O.F_check_numbers.kp O.b_check_numbers (fun σ => passAt (takes_of rfl rfl rfl rfl) σ) (pa_cons (pv 0) (pa_cons (pv 2) (pa_cons (pe_lst (pa_cons (pv 1) pa_nil)) pa_nil)))))
  (pss_one (ps_ret (pe_callS (ok_split_for T O) (hr.mono (by decide)) (by rfl) O.m_split_for O.F_split_for.kp O.b_split_for (fun σ => passAt (takes_of rfl rfl rfl rfl) σ) (pa_cons (pv 0) (pa_cons (pv 1) (pa_cons (pv 2) pa_nil))))))), ?_⟩
  walk_at "r"
  intro p hp
  have s1 := Jv.same_new (u := .lst [vq]) hp
  walk_at "r"
  refine ⟨vl, ve, p, [vq], [dq], rfl, Jv.sqL_at upd_same, .cons (hq.same s1) .nil, by simp, dr.up s1 fun L A de e hL he hA hw g H2 s2 => ?_⟩
  subst e
  obtain ⟨q, rfl, q1⟩ := whole1 (d := dq) (by simpa using hw)
  obtain rfl := dv_nat hq
  walk_at "r"
  exact ⟨L, q, ve, de, A, rfl, hL, q1, he.same (s1.trans s2), hA, fun t H3 s3 ht => g q rfl q1 t H3 ((s1.trans s2).trans s3) ht⟩
theorem ok_most_both (T : Tx) (O : Ok K mg T) : FnOk P w K mg base (L2.CX P w) 7 T.f_most_both T.d_most_both ["ladder", "q", "ends"] (sp_most_both K T) := by
  refine O.F_most_both.okX sc_most_both (fun vs H Q E h => by obtain ⟨_, _, _, _, rfl, _⟩ := h; rfl) (fun cdv A0 outer s H vs Q E hr h => ?_)
  obtain ⟨vl, vq, ve, dq, rfl, hq, dr⟩ := h
  refine ⟨_, (pss_one (ps_ret (pe_callB (r := Jv.rSumA K) (Jv.cr_sumA rfl) (by rfl) O.z_sum (by decide +kernel) (pa_cons (Jv.pe_callNS (ok_both_split T O) (hr.mono (by decide)) (by rfl) O.m_both_split O.F_both_split.kp O.kb2_ends_both_split (fun σ => passAt (takes_of rfl rfl rfl rfl) σ) (pa_cons (pv 0) (pa_cons (pv 1) pa_nil)) (pk_cons (pv 2) pk_nil)) pa_nil)))), ?_⟩
  walk_at "r"
  refine Jv.r_callNS ?_
  walk_at "r"
  refine ⟨rfl, rfl, vl, vq, ve, dq, rfl, hq, dr.up (Same.refl _) fun L A de _ hL _ hA _ g q e q1 t H1 s1 ht => ?_⟩
  walk_at "r"
  refine ⟨.ref t, _, rfl, ⟨t, rfl, .inr ht⟩, ?_⟩
  rw [spA_sum hA.ne]
  exact g q e q1 H1 s1
theorem ok_serves_both (T : Tx) (O : Ok K mg T) : FnOk P w K mg base (L2.CX P w) 6 T.f_serves_both T.d_serves_both ["ladder", "p", "q", "ends"] (sp_serves_both K T) := by
  refine O.F_serves_both.okX sc_serves_both (fun vs H Q E h => by obtain ⟨_, _, _, _, _, _, rfl, _⟩ := h; rfl) (fun cdv A0 outer s H vs Q E hr h => ?_)
  obtain ⟨vl, vp, vq, ve, dp, dq, rfl, hp', hq, dr⟩ := h
  refine ⟨_, (pss_cons (ps_expr (pe_callS (ok_check_numbers T O) (hr.mono (by decide)) (by rfl) O.m_check_numbers O.F_check_numbers.kp O.b_check_numbers (fun σ => passAt (takes_of rfl rfl rfl rfl) σ) (pa_cons (pv 0) (pa_cons (pv 3) (pa_cons (pe_lst (pa_cons (pv 1) (pa_cons (pv 2) pa_nil))) pa_nil)))))
  (pss_one (ps_ret (pe_cmpR op_le (pv 1) (pe_callB (r := Jv.rSumA K) (Jv.cr_sumA rfl) (by rfl) O.z_sum (by decide +kernel) (pa_cons (pe_callS (ok_split_for T O) (hr.mono (by decide)) (by rfl) O.m_split_for O.F_split_for.kp O.b_split_for (fun σ => passAt (takes_of rfl rfl rfl rfl) σ) (pa_cons (pv 0) (pa_cons (pv 2) (pa_cons (pv 3) pa_nil)))) pa_nil)) (nomark _))))), ?_⟩
  walk_at "r"
  intro b hb
  have s1 := Jv.same_new (u := .lst [vp, vq]) hb
  walk_at "r"
  refine ⟨vl, ve, b, [vp, vq], [dp, dq], rfl, Jv.sqL_at upd_same, .cons (hp'.same s1) (.cons (hq.same s1) .nil), by simp, dr.up s1 fun L A de e hL he hA hw g H2 s2 => ?_⟩
  subst e
  have hw : Jv.wholeD dp (.int 1) .non = true ∧ Jv.wholeD dq (.int 1) .non = true := by simpa using hw
  obtain ⟨p, rfl, p1⟩ := whole1 hw.1
  obtain ⟨q, rfl, q1⟩ := whole1 hw.2
  obtain rfl := dv_nat hp'
  obtain rfl := dv_nat hq
  walk_at "r"
  refine ⟨L, q, ve, de, A, rfl, hL, q1, he.same (s1.trans s2), hA, fun t H3 s3 ht => ?_⟩
  walk_at "r"
  refine ⟨.ref t, _, rfl, ⟨t, rfl, .inr ht⟩, ?_⟩
  rw [spA_sum hA.ne]
  walk_at "r"
  have := g p q rfl rfl p1 q1 H3 ((s1.trans s2).trans s3)
  rw [show decide (p ≤ gT 399 A q) = decide ((p : Int) ≤ (gT 399 A q : Nat)) from decide_eq_decide.mpr (by omega)] at this
  exact this
end
end K39

namespace K39
open PySem PySem.Spec PyProof.Rows L2
/-! ### staircase, least_both -/
theorem tabl_drop {M : Nat} {f : Nat → Nat} : (tabl (M + 1) f).drop 1 = tabl M fun m => f (m + 1) := by
  unfold tabl
  rw [← List.map_drop, List.range_succ_eq_map, List.drop_succ_cons, List.drop_zero, List.map_map]
  rfl
theorem rep_ends (L : Nat) : EndsOf .none L (rep (L + 1)) := .inl ⟨rfl, rfl⟩
section
variable {P : Program} {w : World} {K : PySem.W.Frag} {mg : Str → Option Value} {base : Heap}
theorem ok_staircase (T : Tx) (O : Ok K mg T) : FnOk P w K mg base (L2.CX P w) 5 T.f_staircase T.d_staircase ["ladder", "ends"] (sp_staircase K T) := by
  refine O.F_staircase.okX sc_staircase (fun vs H Q E h => by obtain ⟨_, _, rfl, _⟩ := h; rfl) (fun cdv A0 outer s H vs Q E hr h => ?_)
  obtain ⟨vl, ve, rfl, dr⟩ := h
  refine ⟨_, (pss_cons (ps_expr (pe_callS (ok_check_numbers T O) (hr.mono (by decide)) (by rfl) O.m_check_numbers O.F_check_numbers.kp O.b_check_numbers (fun σ => passAt (takes_of rfl rfl rfl rfl) σ) (pa_cons (pv 0) (pa_cons (pv 1) (pa_cons (pe_lst pa_nil) pa_nil)))))
  (pss_cons (ps_set (i := 2) sc_staircase.nd rfl (Or.inl rfl) (pe_op op_cat (pe_lc (own := [("split", 4)]) (by rfl) sc_staircase.nd (show PI _ _ _ (iList K _) from pi_list (pe_callS (ok_splits_first T O) (hr.mono (by decide)) (by rfl) O.m_splits_first O.F_splits_first.kp O.b_splits_first (fun σ => passAt (takes_of rfl rfl rfl rfl) σ) (pa_cons (pv 0) (pa_cons (pv 1) pa_nil)))) (blkOk_by (own := [("split", 4)]) (N := ["ladder", "ends", "counts", "steps", "split", "q", "many", "further"]) (sc := defScope s_staircase) (scope := ({ kind := .function, names := [(".0", .local), ("split", .local), ("sum", .globalImplicit)], isGenerator := false, isCoroutine := false } : Scope)) (by decide +kernel)) (fun _ _ _ _ _ => (pg_name (i := 4) sc_staircase.nd rfl (Or.inl rfl))) (fun _ _ _ _ _ => pts_nil) (fun _ _ _ _ _ => (pe_callB (r := Jv.rSumA K) (Jv.cr_sumA rfl) (by rfl) O.z_sum (by decide +kernel) (pa_cons (pv 4) pa_nil)))) (pe_lst (pa_cons pe_int pa_nil))))
  (pss_cons (ps_set (i := 3) sc_staircase.nd rfl (Or.inl rfl) (Jv.pe_lstZip (by rfl) O.z_zip (by rfl) O.z_list rfl (pa_cons (pv 2) (pa_cons (pe_slice (r := rSlL K) sl_list (pv 2) (po_some pe_int) po_none) pa_nil))))
  (pss_one (ps_ret (pe_callTy (r := Jv.rTupOf K) call_tuple_of (by rfl) O.z_tuple (by decide +kernel) (pa_cons (pe_callB (r := rSortedPO K) cr_sortedPO (by rfl) O.z_sorted (by decide +kernel) (pa_cons (pe_lc (own := [("q", 5), ("many", 6), ("further", 7)]) (by rfl) sc_staircase.nd (show PI _ _ _ (Jv.iEnK K _) from Jv.pi_enK (by rfl) O.z_enumerate (pa_cons (pv 3) (pa_cons pe_int pa_nil))) (blkOk_by (own := [("q", 5), ("many", 6), ("further", 7)]) (N := ["ladder", "ends", "counts", "steps", "split", "q", "many", "further"]) (sc := defScope s_staircase) (scope := ({ kind := .function, names := [(".0", .local), ("q", .local), ("many", .local), ("further", .local)], isGenerator := false, isCoroutine := false } : Scope)) (by decide +kernel)) (fun _ _ _ _ _ => (show PG _ _ (gTup K 2 _) from pg_tup rfl (pgs_cons (pg_name (i := 5) sc_staircase.nd rfl (Or.inl rfl) (Or.inr rfl)) (pgs_cons (show PG _ _ (gTup K 2 _) from pg_tup rfl (pgs_cons (pg_name (i := 6) sc_staircase.nd rfl (Or.inl rfl) (Or.inr rfl)) (pgs_cons (pg_name (i := 7) sc_staircase.nd rfl (Or.inl rfl) (Or.inr rfl)) pgs_nil))) pgs_nil)))) (fun _ _ _ _ _ => (pts_one (pt_cmpR op_gt (pv 6) (pv 7) (nomark _)))) (fun _ _ _ _ _ => (pe_tup (pa_cons (pv 6) (pa_cons (pv 5) pa_nil))))) pa_nil)) pa_nil))))))), ?_⟩
  walk_at "r"
  intro p hp
  have s1 := Jv.same_new (u := .lst []) hp
  walk_at "r"
  refine ⟨vl, ve, p, [], [], rfl, Jv.sqL_at upd_same, .nil, by simp, dr.up s1 fun L A de e hL he hA hw g H2 s2 => ?_⟩
  subst e
  have hM := MM_le hL
  have lenA := hA.len
  have far : ∀ m, MM L < m → gT 399 A m = 0 := fun m hm => gA_far hL lenA hm
  walk_at "r"
  refine Jv.lcFe fun R hR => ?_
  walk_at "r"
  refine ⟨L, ve, de, A, rfl, hL, he.same (s1.trans s2), hA, fun v H3 s3 dv => ?_⟩
  cases dv with
  | @lst S vs _ hv al =>
    have ln := al.len
    rw [List.length_map, List.length_range] at ln
    refine hR S vs (fun j => .int (gT 399 A (j + 1) : Nat)) H3 (Jv.sqL_at hv) (by omega) (fun j v H4 hv4 s4 PP hP => ?_) (fun D H4 s4 hD e4 => ?_)
    · have hj : j < vs.length := (List.getElem?_eq_some_iff.mp hv4).1
      obtain ⟨v2, h2, dv⟩ := (al.same s4).of (i := j) (d := tD (spA 399 A (j + 1))) (by rw [List.getElem?_map, List.getElem?_range (by omega)]; rfl)
      rw [hv4] at h2
      cases h2
      obtain ⟨t, rfl, ht⟩ := tD_at dv
      walk_at "r"
      refine ⟨.ref t, _, rfl, ⟨t, rfl, .inr ht⟩, ?_⟩
      rw [spA_sum hA.ne]
      exact hP _ (Same.refl _)
    · have f4 : (List.range vs.length).map (fun j => V.int (gT 399 A (j + 1) : Nat)) = (tabl (MM L) (gT 399 A)).map V.int := by
        rw [ln]; unfold tabl; rw [List.map_map]; rfl
      rw [f4] at e4
      walk_at "r"
      intro p5 hp5
      have s5 := Jv.same_new (u := .lst [.int 0]) hp5
      refine Jv.r_cat (s5 _ _ e4) upd_same (by simp [tabl_len]; omega) fun c6 H6 hc6 s6 e6 => ?_
      have e6' : H6 c6 = some (.lst ((tabl (MM L + 1) (gT 399 A)).map V.int)) := by
        rw [e6, tabl_succ, List.map_append, far (MM L + 1) (by omega)]; rfl
      clear e6
      have s26 := (((s1.trans s2).trans s3).trans s4).trans (s5.trans s6)
      generalize upd H4 p5 (.lst [.int 0]) = H5 at s5 s6 hc6
      walk_at "r"
      refine Jv.r_lz ?_
      walk_at "r"
      refine Jv.r_tSl ?_
      walk_at "r"
      refine Jv.r_part ?_
      walk_at "r"
      refine Jv.r_partI (Jv.r_noPart ?_)
      refine Jv.r_slL e6' fun p7 H7 hp7 s7 e7 => ?_
      rw [Jv.cut_drop (by omega) (by rw [List.length_map, tabl_len]; omega), show ((1 : Int)).toNat = 1 from rfl, ← List.map_drop, tabl_drop] at e7
      walk_at "r"
      refine ⟨c6, p7, _, _, rfl, Jv.sqL_at (s7 _ _ e6'), Jv.sqL_at e7, by simp [tabl_len]; omega, fun Ts D8 H8 s8 hD8 e8 lT pa => ?_⟩
      rw [List.length_map, List.length_map, tabl_len, tabl_len, Nat.min_eq_right (by omega)] at lT
      walk_at "r"
      refine Jv.lcEnC (Ts := Ts) (fun PP hP => by walk_at "r"; exact hP) (Jv.sqL_at e8) pa (fun j => decide (gT 399 A (j + 2) < gT 399 A (j + 1))) (fun j => ((gT 399 A (j + 1) : Nat), (j : Int) + 1)) (by omega) (fun _ _ _ => rfl) (fun i u v H9 hu hv9 s9 R hR => ?_) (fun i u v H9 hu hv9 s9 PP hP => ?_) (fun D9 ys H9 s9 hD9 e9 py => ?_)
      · obtain ⟨_, rfl⟩ := tabl_get hu
        obtain ⟨_, rfl⟩ := tabl_get hv9
        walk_at "r"
        have := hR _ (Same.refl _)
        have e2 : gT 399 A (i + 2) = gT 399 A (i + 1 + 1) := rfl
        rw [show decide (gT 399 A (i + 2) < gT 399 A (i + 1)) = decide (((gT 399 A (i + 1) : Nat) : Int) > (gT 399 A (i + 1 + 1) : Nat)) from decide_eq_decide.mpr (by omega)] at this
        exact this
      · obtain ⟨_, rfl⟩ := tabl_get hu
        walk_at "r"
        intro p10 hp10
        exact hP p10 _ (Jv.same_new hp10) (by rw [upd_same, Int.add_comm 1])
      · walk_at "r"
        rw [lT] at py
        have py2 : Jv.PrsAt H9 ys (crn (MM L) (gT 399 A)) := py
        have ec : crn 399 (gT 399 A) = crn (MM L) (gT 399 A) := crn_same (by omega) fun j hj => far (j + 1) (by omega)
        refine Jv.r_sortP (Jv.sqL_at e9) py2 (crn_desc gT_ant) fun ys' p10 py3 hp10 => ?_
        have s10 := Jv.same_new (u := .lst ys') hp10
        walk_at "r"
        refine Jv.r_tupOfL (Jv.sqL_at upd_same) fun t11 ht11 => ?_
        have s11 := Jv.same_new (u := .tup ys') ht11
        refine g t11 _ (s1.trans <| s2.trans ((s3.trans s4).trans ((s5.trans s6).trans ((s7.trans s8).trans (s9.trans (s10.trans s11)))))) ?_
        rw [ec]
        exact .tup (Jv.sqT_at upd_same) (py3.dv.same (s10.trans s11))
theorem ok_least_both (T : Tx) (O : Ok K mg T) : FnOk P w K mg base (L2.CX P w) 6 T.f_least_both T.d_least_both ["p", "q"] (sp_least_both K T) := by
  refine O.F_least_both.okX sc_least_both (fun vs H Q E h => by obtain ⟨_, _, _, _, rfl, _⟩ := h; rfl) (fun cdv A0 outer s H vs Q E hr h => ?_)
  obtain ⟨vp, vq, dp, dq, rfl, hp', hq', qq⟩ := h
  refine ⟨_, (pss_cons (ps_if (PW.pt (pw_or (pt_not (pt_val (pe_call (ok_is_whole T O) (hr.mono (by decide)) (by rfl) O.m_is_whole O.F_is_whole.kp O.b_is_whole .nil pass0 (pa_cons (pv 0) (pa_cons pe_int (pa_cons (pe_glob (v := .int (8)) (by rfl) O.c_LEAST_BOTH_MOST ⟨_, rfl⟩) pa_nil)))))) (pw_or1 (pt_not (pt_val (pe_call (ok_is_whole T O) (hr.mono (by decide)) (by rfl) O.m_is_whole O.F_is_whole.kp O.b_is_whole .nil pass0 (pa_cons (pv 1) (pa_cons pe_int (pa_cons (pe_glob (v := .int (8)) (by rfl) O.c_LEAST_BOTH_MOST ⟨_, rfl⟩) pa_nil))))))))) (pss_one (ps_raise rfl (takes_of rfl rfl rfl rfl) (Jv.pmk_own0 PySem.F.excBase_ValueError O.e_BadKinds.x O.m_BadKinds O.e_BadKinds.k (O.e_BadKinds.raises) (by rfl)))) pss_nil)
  (pss_cons (ps_set (i := 2) sc_least_both.nd rfl (Or.inl rfl) pe_int)
  (pss_cons (ps_while (passes_of rfl) (pt_cmpR op_gt (pv 0) (pe_callB (r := Jv.rSumA K) (Jv.cr_sumA rfl) (by rfl) O.z_sum (by decide +kernel) (pa_cons (pe_callS (ok_split_for T O) (hr.mono (by decide)) (by rfl) O.m_split_for O.F_split_for.kp O.b_split_for (fun σ => passAt (takes_of rfl rfl rfl rfl) σ) (pa_cons (pv 2) (pa_cons (pv 1) (pa_cons pe_non pa_nil)))) pa_nil)) (nomark _)) (pss_one (ps_aug (i := 2) sc_least_both.nd rfl (Or.inl rfl) pe_int ip_add)))
  (pss_one (ps_ret (pv 2)))))), ?_⟩
  walk_at "r"
  refine ⟨vp, dp, .int 1, .int 8, rfl, hp', .inr ⟨_, rfl⟩, .inr ⟨_, rfl⟩, ?_⟩
  rw [hp'.whole]
  rcases qq with ⟨e, k⟩ | ⟨p, q, rfl, rfl, p1, p8, q1, q8, k⟩
  · cases w1 : Jv.wholeD dp (.int 1) (.int 8) with
    | false =>
      walk_at "r"
      exact k _ (Same.refl _)
    | true =>
      rw [w1, Bool.true_and] at e
      walk_at "r"
      refine ⟨vq, dq, .int 1, .int 8, rfl, hq', .inr ⟨_, rfl⟩, .inr ⟨_, rfl⟩, ?_⟩
      rw [hq'.whole, e]
      walk_at "r"
      exact k _ (Same.refl _)
  · have wh : ∀ z : Nat, 1 ≤ z → z ≤ 8 → Jv.wholeD (.int z) (.int 1) (.int 8) = true := fun z h1 h2 => by simp [Jv.wholeD, Jv.loOk, Jv.hiOk]; omega
    rw [wh p p1 p8]
    walk_at "r"
    refine ⟨vq, _, .int 1, .int 8, rfl, hq', .inr ⟨_, rfl⟩, .inr ⟨_, rfl⟩, ?_⟩
    rw [hq'.whole, wh q q1 q8]
    obtain rfl := dv_nat hp'
    obtain rfl := dv_nat hq'
    walk_at "r"
    refine Jv.r_whl ⟨fun m σ H' => ∃ n : Nat, m + n = 8 ∧ σ = [some (.int p), some (.int q), some (.int n)] ∧ Same H H' ∧ ∀ k, k < n → gT 399 (rep (k + 1)) q < p, ⟨8, 0, rfl, rfl, Same.refl _, fun k h => absurd h (by omega)⟩, ?_⟩
    rintro m σ H1 ⟨n, hmn, rfl, s1, lt⟩
    walk_at "r"
    refine ⟨n, q, .non, .none, rep (n + 1), rfl, by omega, q1, .dv .non, rep_ends n, fun t H2 s2 ht => ?_⟩
    walk_at "r"
    refine ⟨.ref t, _, rfl, ⟨t, rfl, .inr ht⟩, ?_⟩
    rw [spA_sum (rep_ends n).ne]
    walk_at "r"
    refine Jv.r_dec (fun z => ?_) (fun z => ?_)
    · have n8 : n ≠ 8 := fun e => by
        subst e
        have h1 := eight (M := 399) (by decide)
        have h2 := gT_anti (M := 399) (B := rep 9) q1 q8
        have : 8 ≤ gT 399 (rep (8 + 1)) q := Nat.le_trans h1 h2
        omega
      refine ⟨fun σ' H' => σ' = [some (.int p), some (.int q), some (.int (n + 1 : Nat))] ∧ Same H H', fun σ' H' ⟨e, s'⟩ => ⟨m - 1, by omega, n + 1, by omega, e, s', fun k hk => ?_⟩, ?_⟩
      · by_cases e : k = n
        · subst e; omega
        · exact lt k (by omega)
      · exact ⟨_, rfl, _, _, rfl, rfl, rfl, s1.trans s2⟩
    · walk_at "r"
      exact k n _ (by omega) (by omega) lt (s1.trans s2)
end
end K39

namespace K39
open PySem PySem.Spec PyProof.Rows L2
/-! ### the law's lines -/
def lawD (bs : List Bool) : List PyData := (gM 399 bs).map fun g => iD (tabl (rN 399 g 1) g)
theorem law_len {bs : List Bool} : (lawD bs).length = bs.length := by unfold lawD; rw [List.length_map, gM_len]
theorem lawD_at {K : PySem.W.Frag} {H : Hp} {k : Nat} {bs : List Bool} {vs : List V} {v : V} (al : Jv.DvAll K H vs (lawD bs)) (h : vs[k]? = some v) : ∃ g b, (gM 399 bs)[k]? = some g ∧ v = .ref b ∧ H b = some (.lst ((tabl (rN 399 g 1) g).map V.int)) := by
  have hk : k < (gM 399 bs).length := by
    have := (List.getElem?_eq_some_iff.mp h).1
    have l := al.len
    unfold lawD at l
    rw [List.length_map] at l
    omega
  obtain ⟨v2, h2, dv⟩ := al.of (i := k) (d := iD (tabl (rN 399 (gM 399 bs)[k] 1) (gM 399 bs)[k])) (by unfold lawD; rw [List.getElem?_map, List.getElem?_eq_getElem hk]; rfl)
  rw [h] at h2
  cases h2
  obtain ⟨b, rfl, hb⟩ := iD_at dv
  exact ⟨_, b, List.getElem?_eq_getElem hk, rfl, hb⟩
theorem rN_cut {M m : Nat} {f : Nat → Nat} (h : Ant f) (hm : 1 ≤ m) : rN (rN M f 1) f m = rN M f m := by
  show ((List.range (rN M f 1)).filter _).length = ((List.range M).filter _).length
  rw [fl_list (M := M) (N := rN M f 1) rN_leM fun j h1 h2 => decide_eq_false fun z => by
    have := (rN_lt (m := 1) h h2).mpr (by omega)
    omega]
theorem tabl_reach {W m : Nat} {f : Nat → Nat} : ((tabl W f).filter fun z => decide ((m : Int) ≤ z)).length = rN W f m := by
  unfold tabl rN
  rw [List.filter_map, List.length_map]
  congr 1
  refine List.filter_congr fun j _ => ?_
  exact decide_eq_decide.mpr (show (m : Int) ≤ ((f (j + 1) : Nat) : Int) ↔ m ≤ f (j + 1) by omega)
def sp_Lreach (K : PySem.W.Frag) : Sp := fun vs H Q _ => ∃ (a : Addr) (W m : Nat) (f : Nat → Nat), vs = [.ref a, .int m] ∧ H a = some (.lst ((tabl W f).map V.int)) ∧ W ≤ 399 ∧ ∀ H', Same H H' → Q (.int (rN W f m : Nat)) H'
def sp_Llines (K : PySem.W.Frag) : Sp := fun vs H Q _ => ∃ (a : Addr) (A : List Bool), vs = [.ref a] ∧ H a = some (.lst (A.map V.bl)) ∧ A.length ≤ 9 ∧ ∀ v H', Same H H' → Jv.Dv K H' v (.list (lawD A)) → Q v H'
def sp_Lcorners (K : PySem.W.Frag) : Sp := fun vs H Q _ => ∃ (a : Addr) (W : Nat) (f : Nat → Nat), vs = [.ref a] ∧ H a = some (.lst ((tabl W f).map V.int)) ∧ W ≤ 399 ∧ (∀ j, j < W → 1 ≤ f (j + 1)) ∧ (∀ j, W ≤ j → f (j + 1) = 0) ∧
  ∀ t H', Same H H' → Jv.Dv K H' (.ref t) (.tuple ((crn W f).reverse.map Jv.pairD)) → Q (.ref t) H'
theorem crn_succ {i : Nat} {f : Nat → Nat} : crn (i + 1) f = crn i f ++ if f (i + 2) < f (i + 1) then [(((f (i + 1) : Nat) : Int), (i : Int) + 1)] else [] := by
  unfold crn
  rw [List.range_succ, List.filter_append, List.map_append]
  congr 1
  by_cases h : f (i + 2) < f (i + 1)
  · simp [h]
  · simp [h]
section
variable {P : Program} {w : World} {K : PySem.W.Frag} {mg : Str → Option Value} {base : Heap}
theorem ok_Lreach (T : Tx) (O : Ok K mg T) : FnOk P w K mg base CX0 1 T.f_Lreach T.d_Lreach ["_law_line", "_law_least_here"] (sp_Lreach K) := by
  refine O.F_Lreach.ok sc_Lreach (fun vs H Q E h => by obtain ⟨_, _, _, _, rfl, _⟩ := h; rfl) (fun cdv A0 outer s H vs Q E hr h => ?_)
  obtain ⟨a, W, m, f, rfl, ha, few, q⟩ := h
  refine ⟨_, (pss_one (ps_ret (pe_callB (r := Jv.rLenK K) Jv.cr_len (by rfl) O.z_len (by decide +kernel) (pa_cons (pe_lc (own := [("_law_one", 2)]) (by rfl) sc_Lreach.nd (show PI _ _ _ (iList K _) from pi_list (pv 0)) (blkOk_by (own := [("_law_one", 2)]) (N := ["_law_line", "_law_least_here", "_law_one"]) (sc := defScope s_Lreach) (scope := ({ kind := .function, names := [(".0", .local), ("_law_one", .local), ("_law_least_here", .free)], isGenerator := false, isCoroutine := false } : Scope)) (by decide +kernel)) (fun _ _ _ _ _ => (pg_name (i := 2) sc_Lreach.nd rfl (Or.inl rfl))) (fun _ _ _ _ _ => (pts_one (pt_cmpR op_ge (pv 2) (pv 1) (nomark _)))) (fun _ _ _ _ _ => (pv 2))) pa_nil)))), ?_⟩
  walk_at "r"
  refine Jv.lcFi (ns := tabl W f) (i := 0) (by rfl) (Jv.sqL_at ha) (fun z => decide ((m : Int) ≤ z)) (by rw [tabl_len]; omega) (fun z H1 hz s1 R hR => ?_) (fun z H1 PP hP => ?_) (fun D H1 s1 hD eD => ?_)
  · walk_at "r"
    exact hR _ (Same.refl _)
  · walk_at "r"
    exact hP
  · walk_at "r"
    rw [List.length_map, tabl_reach]
    exact q _ s1
theorem ok_Llines (T : Tx) (O : Ok K mg T) : FnOk P w K mg base CX0 2 T.f_Llines T.d_Llines ["_law_allowed_here"] (sp_Llines K) := by
  refine O.F_Llines.ok sc_Llines (fun vs H Q E h => by obtain ⟨_, _, rfl, _⟩ := h; rfl) (fun cdv A0 outer s H vs Q E hr h => ?_)
  obtain ⟨a, A, rfl, ha, few, q⟩ := h
  refine ⟨_, (pss_cons (ps_set (i := 1) sc_Llines.nd rfl (Or.inl rfl) (pe_lst pa_nil))
  (pss_cons (ps_for PassesOwn.never rfl (pi_range1 (by rfl) O.z_range (pa_cons (pe_callB (r := Jv.rLenK K) Jv.cr_len (by rfl) O.z_len (by decide +kernel) (pa_cons (pv 0) pa_nil)) pa_nil)) (pg_name (i := 2) sc_Llines.nd rfl (Or.inl rfl)) (pss_cons (ps_set (i := 3) sc_Llines.nd rfl (Or.inl rfl) (pe_op op_sub (pe_op op_sub (pe_callB (r := Jv.rLenK K) Jv.cr_len (by rfl) O.z_len (by decide +kernel) (pa_cons (pv 0) pa_nil)) pe_int) (pv 2)))
  (pss_cons (ps_set (i := 4) sc_Llines.nd rfl (Or.inl rfl) (pe_lst pa_nil))
  (C8.pss_cut (ps_for PassesOwn.never rfl (pi_range2 (by rfl) O.z_range (pa_cons pe_int (pa_cons pe_int pa_nil))) (pg_name (i := 5) sc_Llines.nd rfl (Or.inr rfl)) (C8.pss_cut (ps_set (i := 6) sc_Llines.nd rfl (Or.inl rfl) (pe_ifExp (PW.pt (pw_and (pt_cmpR op_eq (pv 5) pe_int (nomark _)) (pw_and1 (pt_val (pe_ix (r := rIxL K) ix_list (pv 0) (pv 3) (fun _ _ => rfl)))))) pe_int pe_int))
  (pss_cons (ps_set (i := 6) sc_Llines.nd rfl (Or.inl rfl) (pe_op op_add (pv 6) (pe_callB (r := Jv.rSumA K) (Jv.cr_sumA rfl) (by rfl) O.z_sum (by decide +kernel) (pa_cons (pe_lc (own := [("_law_above", 7)]) (by rfl) sc_Llines.nd (show PI _ _ _ (iList K _) from pi_list (pv 1)) (blkOk_by (own := [("_law_above", 7)]) (N := ["_law_allowed_here", "_law_lines_here", "_law_k", "_law_stood", "_law_line", "_law_many", "_law_total", "_law_above"]) (sc := defScope s_Llines) (scope := ({ kind := .function, names := [(".0", .local), ("_law_above", .local), ("_law_reach", .globalImplicit), ("_law_many", .free)], isGenerator := false, isCoroutine := false } : Scope)) (by decide +kernel)) (fun _ _ _ _ _ => (pg_name (i := 7) sc_Llines.nd rfl (Or.inl rfl))) (fun _ _ _ _ _ => pts_nil) (fun _ _ _ _ _ => (pe_call (ok_Lreach T O) (hr.mono (by decide)) (by rfl) O.m_Lreach O.F_Lreach.kp O.b_Lreach .nil pass0 (pa_cons (pv 7) (pa_cons (pv 5) pa_nil))))) pa_nil))))
  (pss_cons (ps_if (pt_cmpR op_eq (pv 6) pe_int (nomark _)) (pss_one ps_break) pss_nil)
  (pss_one (ps_expr (show PE _ _ (tBM K _ _ _ _) from pe_bm PySem.F.plainAttrs_list PySem.F.slot_list_append PySem.F.type_list_append mt_append (pv 4) (pa_cons (pv 6) pa_nil))))))))
  (pss_one (ps_set (i := 1) sc_Llines.nd rfl (Or.inl rfl) (pe_op op_cat (pe_lst (pa_cons (pv 4) pa_nil)) (pv 1))))))))
  (pss_one (ps_ret (pv 1))))), ?_⟩
  walk_at "r"
  intro p hp
  have s0 := Jv.same_new (u := .lst []) hp
  have e0 : upd H p (.lst []) p = some (.lst []) := upd_same
  generalize upd H p (.lst []) = H1 at s0 e0 ⊢
  have ha1 := s0 _ _ ha
  have lA : (A.map V.bl).length = A.length := List.length_map ..
  walk_at "r"
  refine ⟨_, rfl, by omega, by omega, ?_⟩
  refine for_range (lo := 0) (n := ((A.map V.bl).length : Int).toNat) (fun i σ H' => ∃ ln y2 y3 y4 y5 y6 vs, σ = [some (.ref a), some (.ref ln), y2, y3, y4, y5, y6, none] ∧ Same H1 H' ∧ H' ln = some (.lst vs) ∧ Jv.DvAll K H' vs (lawD (A.drop (A.length - i))))
    ⟨p, _, _, _, _, _, [], rfl, Same.refl _, e0, by rw [Nat.sub_zero, List.drop_length]; exact .nil⟩ ?_ ?_
  · rintro i σ H' hi ⟨ln, y2, y3, y4, y5, y6, vs, rfl, s1, hln, dl⟩
    rw [Int.toNat_natCast, List.length_map] at hi
    have ha2 := s1 _ _ ha1
    have lv := dl.len
    rw [law_len] at lv
    obtain ⟨b, bs, eb, eb2, eb3⟩ : ∃ b bs, A.drop (A.length - i) = bs ∧ A.drop (A.length - (i + 1)) = b :: bs ∧ A[A.length - 1 - i]? = some b := by
      have h1 : A.length - 1 - i < A.length := by omega
      refine ⟨A[A.length - 1 - i], _, rfl, ?_, List.getElem?_eq_getElem h1⟩
      rw [show A.length - (i + 1) = A.length - 1 - i by omega, List.drop_eq_getElem_cons h1, show A.length - 1 - i + 1 = A.length - i by omega]
    rw [eb] at dl lv
    rw [eb2]
    have few2 : (b :: bs).length ≤ 9 := by rw [← eb2, List.length_drop]; omega
    rw [List.length_cons] at few2
    walk_at "r"
    intro D hD
    have sD := Jv.same_new (u := .lst []) hD
    walk_at "r"
    refine ⟨fun σ' H2 => ∃ y5 y6, σ' = [some (.ref a), some (.ref ln), some (.int (0 + (i : Nat))), some (.int ((A.map V.bl).length - 1 - (0 + (i : Nat)))), some (.ref D), y5, y6, none] ∧ Same H' H2 ∧ H2 D = some (.lst ((tabl (rN 399 (gT 399 (b :: bs)) 1) (gT 399 (b :: bs))).map V.int)), ?_, ?_⟩
    · refine Jv.r_for ?_
      walk_at "r"
      refine ⟨1, 400, rfl, by omega, ?_⟩
      refine for_range (lo := 1) (n := ((400 : Int) - 1).toNat) (fun j σ' H2 => ∃ y5 y6, σ' = [some (.ref a), some (.ref ln), some (.int (0 + (i : Nat))), some (.int ((A.map V.bl).length - 1 - (0 + (i : Nat)))), some (.ref D), y5, y6, none] ∧ Same H' H2 ∧ H2 D = some (.lst ((tabl j (gT 399 (b :: bs))).map V.int)) ∧ ∀ j', j' < j → 1 ≤ gT 399 (b :: bs) (j' + 1))
        ⟨_, _, rfl, sD, upd_same, fun j h => absurd h (by omega)⟩ ?_ ?_
      · rintro j σ' H2 hj ⟨y5, y6, rfl, s2, e2, pos⟩
        have ha3 := s2 _ _ ha2
        walk_at "r"
        refine ⟨fun σ' H3 => σ' = [some (.ref a), some (.ref ln), some (.int (0 + (i : Nat))), some (.int ((A.map V.bl).length - 1 - (0 + (i : Nat)))), some (.ref D), some (.int (1 + (j : Nat))), some (.int (if j = 0 then own b else 0)), none] ∧ H3 = H2, ?_, ?_⟩
        · walk_at "r"
          refine Jv.r_decI (fun z => ?_) (fun z => ?_)
          · have j0 : j = 0 := by omega
            walk_at "r"
            refine Jv.r_ixL (Jv.sqL_at ha3) (Jv.at_i (by omega) (by rw [show ((A.map V.bl).length - 1 - (0 + (i : Nat)) : Int).toNat = A.length - 1 - i by omega, List.getElem?_map, eb3]; rfl)) ?_
            rw [if_pos j0]
            cases b with
            | true =>
              walk_at "r"
              exact ⟨rfl, rfl⟩
            | false =>
              walk_at "r"
              exact ⟨rfl, rfl⟩
          · have j0 : ¬ j = 0 := by omega
            rw [if_neg j0]
            walk_at "r"
            exact ⟨rfl, rfl⟩
        · rintro σ' H3 ⟨rfl, rfl⟩
          walk_at "r"
          refine Jv.lcFl (xs := vs) (i := 1) (by rfl) (Jv.sqL_at (s2 _ _ hln)) (fun k => .int (rN 399 ((gM 399 bs).getD k fun _ => 0) (j + 1) : Nat)) (by omega) (fun k v H4 hv s4 PP hP => ?_) (fun D5 H5 s5 hD5 e5 => ?_)
          · obtain ⟨g, q4, hg, rfl, hq⟩ := lawD_at (dl.same (s2.trans s4)) hv
            walk_at "r"
            refine ⟨q4, _, j + 1, g, by rw [show (1 + (j : Nat) : Int) = ((j + 1 : Nat) : Int) by omega]; rfl, hq, rN_leM, fun H6 s6 => ?_⟩
            rw [rN_cut (gM_ant (List.mem_of_getElem? hg)) (by omega)]
            have := hP _ s6
            rw [List.getD_eq_getElem?_getD, hg] at this
            exact this
          · have f5 : (List.range vs.length).map (fun k => V.int (rN 399 ((gM 399 bs).getD k fun _ => 0) (j + 1) : Nat)) = ((gM 399 bs).map fun g => ((rN 399 g (j + 1) : Nat) : Int)).map V.int := by
              rw [lv]
              refine List.ext_getElem? fun k => ?_
              by_cases hk : k < bs.length
              · have hk2 : k < (gM 399 bs).length := by rw [gM_len]; exact hk
                rw [List.getElem?_map, List.getElem?_range hk, List.getElem?_map, List.getElem?_map, List.getElem?_eq_getElem hk2]
                simp only [Option.map_some, List.getD_eq_getElem?_getD, List.getElem?_eq_getElem hk2, Option.getD_some]
              · rw [List.getElem?_eq_none (by simp; omega), List.getElem?_eq_none (by simp [gM_len]; omega)]
            rw [f5] at e5
            have et : (if j = 0 then own b else 0) + ((gM 399 bs).map fun g => ((rN 399 g (j + 1) : Nat) : Int)).sum = (gT 399 (b :: bs) (j + 1) : Nat) := by
              rw [← spl_sum]
              unfold spl
              rw [List.sum_cons]
              congr 1
              by_cases z : j = 0
              · rw [if_pos z, if_pos (by omega)]
              · rw [if_neg z, if_neg (by omega)]
            walk_at "r"
            refine ⟨.ref D5, _, rfl, ⟨D5, rfl, .inl (Jv.sqL_at e5)⟩, ?_⟩
            walk_at "r"
            rw [et]
            have e6 := s5 _ _ e2
            refine Jv.r_decI (fun z => ?_) (fun z => ?_)
            · have w0 : rN 399 (gT 399 (b :: bs)) 1 = j := rN_is (by omega) (fun j' h => pos j' h) fun j' h => by
                have := gT_ant (M := 399) (B := b :: bs) (j + 1) (j' + 1) (by omega) (by omega)
                omega
              refine ⟨_, _, rfl, s2.trans s5, ?_⟩
              rw [w0]
              exact e6
            · walk_at "r"
              refine Jv.r_app e6 (by rw [List.length_map, tabl_len]; omega) ?_
              refine ⟨_, _, rfl, fun c o e => Jv.kpO (s5 _ _ (s2 _ _ e)) (ne_of_none e hD), ?_, fun j' h => ?_⟩
              · rw [upd_same, tabl_succ, List.map_append]; rfl
              · by_cases z' : j' = j
                · subst z'; omega
                · exact pos j' (by omega)
      · rintro σ' H2 ⟨y5, y6, rfl, s2, e2, pos⟩
        have w0 : rN 399 (gT 399 (b :: bs)) 1 = 399 := by unfold rN; exact fl_all fun j h => decide_eq_true (pos j (by omega))
        refine ⟨_, _, rfl, s2, ?_⟩
        rw [w0]
        exact e2
    · rintro σ' H2 ⟨y5, y6, rfl, s2, e2⟩
      walk_at "r"
      intro p3 hp3
      have s3 := Jv.same_new (u := .lst [.ref D]) hp3
      walk_at "r"
      refine Jv.r_cat upd_same (s3 _ _ (s2 _ _ hln)) (by simp; omega) fun c4 H4 hc4 s4 e4 => ?_
      refine ⟨c4, _, _, _, _, _, _, rfl, s1.trans (s2.trans (s3.trans s4)), e4, .cons (iD_of (s4 _ _ (s3 _ _ e2))) (dl.same (s2.trans (s3.trans s4)))⟩
  · rintro σ H' ⟨ln, y2, y3, y4, y5, y6, vs, rfl, s1, hln, dl⟩
    rw [Int.toNat_natCast, List.length_map, Nat.sub_self, List.drop_zero] at dl
    walk_at "r"
    exact q _ _ (s0.trans s1) (.lst hln dl)
end
end K39

namespace K39
open PySem PySem.Spec PyProof.Rows L2
/-! ### the law's corners, parts, least ladder -/
def sp_Lparts (K : PySem.W.Frag) : Sp := fun vs H Q _ => ∃ (a ln m : Nat) (A : List Bool), vs = [.ref a, .ref ln, .int m] ∧ H a = some (.lst (A.map V.bl)) ∧ Jv.Dv K H (.ref ln) (.list (lawD A)) ∧ A ≠ [] ∧ A.length ≤ 9 ∧ 1 ≤ m ∧
  ∀ D H', Same H H' → H' D = some (.lst ((spA 399 A m).map V.int)) → Q (.ref D) H'
def sp_Lleast (K : PySem.W.Frag) : Sp := fun vs H Q _ => ∃ (v : V) (p q : Nat), vs = [v, .int p, .int q] ∧ Jv.Dv K H v (.list (lawD (rep 9))) ∧ 1 ≤ p ∧ p ≤ 8 ∧ 1 ≤ q ∧ q ≤ 8 ∧
  ∀ (n : Nat), n ≤ 8 → p ≤ gT 399 (rep (n + 1)) q → (∀ k, k < n → gT 399 (rep (k + 1)) q < p) → Q (.int n) H
theorem lawD_hd {K : PySem.W.Frag} {H : Hp} {v : V} {b : Bool} {bs : List Bool} (h : Jv.Dv K H v (.list (lawD (b :: bs)))) : ∃ ln c vs, v = .ref ln ∧ H ln = some (.lst (.ref c :: vs)) ∧ H c = some (.lst ((tabl (rN 399 (gT 399 (b :: bs)) 1) (gT 399 (b :: bs))).map V.int)) ∧ Jv.DvAll K H vs (lawD bs) := by
  cases h with
  | lst h al =>
    cases al with
    | cons d al =>
      obtain ⟨c, rfl, hc⟩ := iD_at d
      exact ⟨_, c, _, rfl, h, hc, al⟩
section
variable {P : Program} {w : World} {K : PySem.W.Frag} {mg : Str → Option Value} {base : Heap}
theorem ok_Lcorners (T : Tx) (O : Ok K mg T) : FnOk P w K mg base CX0 1 T.f_Lcorners T.d_Lcorners ["_law_line"] (sp_Lcorners K) := by
  refine O.F_Lcorners.ok sc_Lcorners (fun vs H Q E h => by obtain ⟨_, _, _, rfl, _⟩ := h; rfl) (fun cdv A0 outer s H vs Q E hr h => ?_)
  obtain ⟨a, W, f, rfl, ha, few, pos, zer, q⟩ := h
  refine ⟨_, (pss_cons (ps_set (i := 1) sc_Lcorners.nd rfl (Or.inl rfl) (pe_lst pa_nil))
  (pss_cons (ps_for PassesOwn.never rfl (pi_range1 (by rfl) O.z_range (pa_cons (pe_callB (r := Jv.rLenK K) Jv.cr_len (by rfl) O.z_len (by decide +kernel) (pa_cons (pv 0) pa_nil)) pa_nil)) (pg_name (i := 2) sc_Lcorners.nd rfl (Or.inl rfl)) (pss_one (ps_if (PW.pt (pw_or (pt_cmpR op_eq (pe_op op_add (pv 2) pe_int) (pe_callB (r := Jv.rLenK K) Jv.cr_len (by rfl) O.z_len (by decide +kernel) (pa_cons (pv 0) pa_nil)) (nomark _)) (pw_or1 (pt_cmpR op_lt (pe_ix (r := rIxL K) ix_list (pv 0) (pe_op op_add (pv 2) pe_int) (fun _ _ => rfl)) (pe_ix (r := rIxL K) ix_list (pv 0) (pv 2) (fun _ _ => rfl)) (nomark _))))) (pss_one (ps_set (i := 1) sc_Lcorners.nd rfl (Or.inl rfl) (pe_op op_cat (pe_lst (pa_cons (pe_tup (pa_cons (pe_ix (r := rIxL K) ix_list (pv 0) (pv 2) (fun _ _ => rfl)) (pa_cons (pe_op op_add (pv 2) pe_int) pa_nil))) pa_nil)) (pv 1)))) pss_nil)))
  (pss_one (ps_ret (pe_callTy (r := Jv.rTupOf K) call_tuple_of (by rfl) O.z_tuple (by decide +kernel) (pa_cons (pv 1) pa_nil)))))), ?_⟩
  have lW : ((tabl W f).map V.int).length = W := by rw [List.length_map, tabl_len]
  walk_at "r"
  intro p hp
  have s0 := Jv.same_new (u := .lst []) hp
  have e0 : upd H p (.lst []) p = some (.lst []) := upd_same
  have ha1 := s0 _ _ ha
  generalize upd H p (.lst []) = H1 at s0 e0 ha1 ⊢
  walk_at "r"
  refine ⟨_, rfl, by omega, by omega, ?_⟩
  refine for_range (lo := 0) (n := (((tabl W f).map V.int).length : Int).toNat) (fun i σ H' => ∃ fd y2 vs, σ = [some (.ref a), some (.ref fd), y2] ∧ Same H1 H' ∧ H' fd = some (.lst vs) ∧ Jv.DvAll K H' vs ((crn i f).reverse.map Jv.pairD) ∧ vs.length ≤ i)
    ⟨p, _, [], rfl, Same.refl _, e0, .nil, Nat.le_refl _⟩ ?_ ?_
  · rintro i σ H' hi ⟨fd, y2, vs, rfl, s1, hf, df, ln⟩
    rw [Int.toNat_natCast, lW] at hi
    have ha2 := s1 _ _ ha1
    have at0 : ((tabl W f).map V.int)[i]? = some (.int (f (i + 1) : Nat)) := by rw [List.getElem?_map, tabl_at hi]; rfl
    walk_at "r"
    by_cases last : i + 1 = W
    · refine Jv.r_dec1 (by rw [lW]; congr 1; omega) ?_
      walk_at "r"
      refine Jv.r_ixL (Jv.sqL_at ha2) (Jv.at_i (by omega) (by rw [show (0 + (i : Nat) : Int).toNat = i by omega]; exact at0)) ?_
      walk_at "r"
      intro p3 hp3
      have s3 := Jv.same_new (u := .tup [.int (f (i + 1) : Nat), .int (0 + (i : Nat) + 1)]) hp3
      have e3 : upd H' p3 (.tup [.int (f (i + 1) : Nat), .int (0 + (i : Nat) + 1)]) p3 = some (.tup [.int (f (i + 1) : Nat), .int (0 + (i : Nat) + 1)]) := upd_same
      generalize upd H' p3 (.tup [.int (f (i + 1) : Nat), .int (0 + (i : Nat) + 1)]) = H3 at s3 e3 ⊢
      walk_at "r"
      intro p4 hp4
      have s4 := Jv.same_new (u := .lst [.ref p3]) hp4
      walk_at "r"
      refine Jv.r_cat upd_same (s4 _ _ (s3 _ _ hf)) (by simp; omega) fun c5 H5 hc5 s5 e5 => ?_
      have s35 := (s3.trans s4).trans s5
      refine ⟨c5, _, _, rfl, s1.trans s35, e5, ?_, by simp; omega⟩
      rw [crn_succ, if_pos (show f (i + 2) < f (i + 1) by have a := zer (i + 1) (by omega); have b := pos i hi; have c : f (i + 2) = f (i + 1 + 1) := rfl; omega), List.reverse_append]
      refine .cons ?_ (df.same s35)
      have := s5 _ _ (s4 _ _ e3)
      rw [Int.zero_add] at this
      exact .tup (Jv.sqT_at this) (.cons (.int _) (.cons (.int _) .nil))
    · refine Jv.r_dec0 (fun e => last (by have := V.int.inj e; rw [lW] at this; omega)) ?_
      walk_at "r"
      refine Jv.r_ixL (Jv.sqL_at ha2) (Jv.at_i (v := .int (f (i + 1 + 1) : Nat)) (by omega) (by rw [show (0 + (i : Nat) + 1 : Int).toNat = i + 1 by omega, List.getElem?_map, tabl_at (by omega)]; rfl)) ?_
      walk_at "r"
      refine Jv.r_ixL (Jv.sqL_at ha2) (Jv.at_i (by omega) (by rw [show (0 + (i : Nat) : Int).toNat = i by omega]; exact at0)) ?_
      walk_at "r"
      refine Jv.r_dec (fun z => ?_) (fun z => ?_)
      · walk_at "r"
        refine Jv.r_ixL (Jv.sqL_at ha2) (Jv.at_i (by omega) (by rw [show (0 + (i : Nat) : Int).toNat = i by omega]; exact at0)) ?_
        walk_at "r"
        intro p3 hp3
        have s3 := Jv.same_new (u := .tup [.int (f (i + 1) : Nat), .int (0 + (i : Nat) + 1)]) hp3
        have e3 : upd H' p3 (.tup [.int (f (i + 1) : Nat), .int (0 + (i : Nat) + 1)]) p3 = some (.tup [.int (f (i + 1) : Nat), .int (0 + (i : Nat) + 1)]) := upd_same
        generalize upd H' p3 (.tup [.int (f (i + 1) : Nat), .int (0 + (i : Nat) + 1)]) = H3 at s3 e3 ⊢
        walk_at "r"
        intro p4 hp4
        have s4 := Jv.same_new (u := .lst [.ref p3]) hp4
        walk_at "r"
        refine Jv.r_cat upd_same (s4 _ _ (s3 _ _ hf)) (by simp; omega) fun c5 H5 hc5 s5 e5 => ?_
        have s35 := (s3.trans s4).trans s5
        refine ⟨c5, _, _, rfl, s1.trans s35, e5, ?_, by simp; omega⟩
        rw [crn_succ, if_pos (show f (i + 2) < f (i + 1) by have c : f (i + 2) = f (i + 1 + 1) := rfl; omega), List.reverse_append]
        refine .cons ?_ (df.same s35)
        have := s5 _ _ (s4 _ _ e3)
        rw [Int.zero_add] at this
        exact .tup (Jv.sqT_at this) (.cons (.int _) (.cons (.int _) .nil))
      · refine ⟨fd, _, vs, rfl, s1, hf, ?_, by omega⟩
        rw [crn_succ, if_neg (show ¬ f (i + 2) < f (i + 1) by have c : f (i + 2) = f (i + 1 + 1) := rfl; omega), List.append_nil]
        exact df
  · rintro σ H' ⟨fd, y2, vs, rfl, s1, hf, df, ln⟩
    rw [Int.toNat_natCast, lW] at df
    walk_at "r"
    refine Jv.r_tupOfL (Jv.sqL_at hf) fun t ht => ?_
    exact q t _ ((s0.trans s1).trans (Jv.same_new ht)) (.tup (Jv.sqT_at upd_same) (df.same (Jv.same_new ht)))
theorem ok_Lparts (T : Tx) (O : Ok K mg T) : FnOk P w K mg base CX0 2 T.f_Lparts T.d_Lparts ["_law_allowed_here", "_law_lines_here", "_law_many"] (sp_Lparts K) := by
  refine O.F_Lparts.ok sc_Lparts (fun vs H Q E h => by obtain ⟨_, _, _, _, rfl, _⟩ := h; rfl) (fun cdv A0 outer s H vs Q E hr h => ?_)
  obtain ⟨a, ln0, m, A, rfl, ha, dl, hA, few, m1, q⟩ := h
  refine ⟨_, (pss_one (ps_ret (pe_op op_cat (pe_lst (pa_cons (pe_ifExp (PW.pt (pw_and (pt_cmpR op_eq (pv 2) pe_int (nomark _)) (pw_and1 (pt_val (pe_ix (r := rIxL K) ix_list (pv 0) pe_int (fun _ _ => rfl)))))) pe_int pe_int) pa_nil)) (pe_lc (own := [("_law_line", 3)]) (by rfl) sc_Lparts.nd (show PI _ _ _ (iList K _) from pi_list (pe_slice (r := rSlL K) sl_list (pv 1) (po_some pe_int) po_none)) (blkOk_by (own := [("_law_line", 3)]) (N := ["_law_allowed_here", "_law_lines_here", "_law_many", "_law_line"]) (sc := defScope s_Lparts) (scope := ({ kind := .function, names := [(".0", .local), ("_law_line", .local), ("_law_reach", .globalImplicit), ("_law_many", .free)], isGenerator := false, isCoroutine := false } : Scope)) (by decide +kernel)) (fun _ _ _ _ _ => (pg_name (i := 3) sc_Lparts.nd rfl (Or.inl rfl))) (fun _ _ _ _ _ => pts_nil) (fun _ _ _ _ _ => (pe_call (ok_Lreach T O) (hr.mono (by decide)) (by rfl) O.m_Lreach O.F_Lreach.kp O.b_Lreach .nil pass0 (pa_cons (pv 3) (pa_cons (pv 2) pa_nil)))))))), ?_⟩
  cases A with
  | nil => exact absurd rfl hA
  | cons b bs =>
  obtain ⟨ln, c, vs, e, hl, hc, al⟩ := lawD_hd dl
  cases e
  rw [List.length_cons] at few
  have lv := al.len
  rw [law_len] at lv
  walk_at "r"
  refine Jv.r_andx (.int (if m = 1 then own b else 0)) (fun Q' k' => ?_) ?_
  · refine Jv.r_decI (fun z => ?_) (fun z => ?_)
    · rw [if_pos (by omega)] at k'
      walk_at "r"
      refine Jv.r_ixL (Jv.sqL_at ha) (Jv.at_i (by decide) (by rfl)) ?_
      cases b with
      | true =>
        walk_at "r"
        exact k'
      | false =>
        walk_at "r"
        exact k'
    · rw [if_neg (by omega)] at k'
      walk_at "r"
      exact k'
  walk_at "r"
  intro p hp
  have s1 := Jv.same_new (u := .lst [.int (if m = 1 then own b else 0)]) hp
  have e1 : upd H p (.lst [.int (if m = 1 then own b else 0)]) p = some (.lst [.int (if m = 1 then own b else 0)]) := upd_same
  generalize upd H p (.lst [.int (if m = 1 then own b else 0)]) = H1 at s1 e1 ⊢
  walk_at "r"
  refine Jv.lcFe fun R hR => ?_
  refine Jv.r_tSl ?_
  walk_at "r"
  refine Jv.r_part ?_
  walk_at "r"
  refine Jv.r_partI (Jv.r_noPart ?_)
  refine Jv.r_slL (s1 _ _ hl) fun p2 H2 hp2 s2 e2 => ?_
  rw [Jv.cut_drop (by omega) (by simp), show ((1 : Int)).toNat = 1 from rfl, List.drop_succ_cons, List.drop_zero] at e2
  refine hR p2 vs (fun k => .int (rN 399 ((gM 399 bs).getD k fun _ => 0) m : Nat)) H2 (Jv.sqL_at e2) (by omega) (fun k v H4 hv s4 PP hP => ?_) (fun D5 H5 s5 hD5 e5 => ?_)
  · obtain ⟨g, q4, hg, rfl, hq⟩ := lawD_at (al.same ((s1.trans s2).trans s4)) hv
    walk_at "r"
    refine ⟨q4, _, m, g, rfl, hq, rN_leM, fun H6 s6 => ?_⟩
    rw [rN_cut (gM_ant (List.mem_of_getElem? hg)) m1]
    have := hP _ s6
    rw [List.getD_eq_getElem?_getD, hg] at this
    exact this
  · have f5 : (List.range vs.length).map (fun k => V.int (rN 399 ((gM 399 bs).getD k fun _ => 0) m : Nat)) = ((gM 399 bs).map fun g => ((rN 399 g m : Nat) : Int)).map V.int := by
      rw [lv]
      refine List.ext_getElem? fun k => ?_
      by_cases hk : k < bs.length
      · have hk2 : k < (gM 399 bs).length := by rw [gM_len]; exact hk
        rw [List.getElem?_map, List.getElem?_range hk, List.getElem?_map, List.getElem?_map, List.getElem?_eq_getElem hk2]
        simp only [Option.map_some, List.getD_eq_getElem?_getD, List.getElem?_eq_getElem hk2, Option.getD_some]
      · rw [List.getElem?_eq_none (by simp; omega), List.getElem?_eq_none (by simp [gM_len]; omega)]
    rw [f5] at e5
    walk_at "r"
    refine Jv.r_cat (s5 _ _ (s2 _ _ e1)) e5 (by simp [gM_len]; omega) fun c6 H6 hc6 s6 e6 => ?_
    exact q c6 _ (((s1.trans s2).trans s5).trans s6) e6
theorem ok_Lleast (T : Tx) (O : Ok K mg T) : FnOk P w K mg base CX0 1 T.f_Lleast T.d_Lleast ["_law_lines_here", "_law_one", "_law_other"] (sp_Lleast K) := by
  refine O.F_Lleast.ok sc_Lleast (fun vs H Q E h => by obtain ⟨_, _, _, rfl, _⟩ := h; rfl) (fun cdv A0 outer s H vs Q E hr h => ?_)
  obtain ⟨v, p, q, rfl, dv, p1, p8, q1, q8, k⟩ := h
  refine ⟨_, (pss_cons (ps_for PassesOwn.never rfl (pi_range1 (by rfl) O.z_range (pa_cons (pe_callB (r := Jv.rLenK K) Jv.cr_len (by rfl) O.z_len (by decide +kernel) (pa_cons (pv 0) pa_nil)) pa_nil)) (pg_name (i := 3) sc_Lleast.nd rfl (Or.inl rfl)) (pss_cons (ps_set (i := 4) sc_Lleast.nd rfl (Or.inl rfl) (pe_ix (r := rIxL K) ix_list (pv 0) (pe_op op_sub (pe_op op_sub (pe_callB (r := Jv.rLenK K) Jv.cr_len (by rfl) O.z_len (by decide +kernel) (pa_cons (pv 0) pa_nil)) pe_int) (pv 3)) (fun _ _ => rfl)))
  (pss_one (ps_if (PW.pt (pw_and (pt_cmpR op_le (pv 2) (pe_callB (r := Jv.rLenK K) Jv.cr_len (by rfl) O.z_len (by decide +kernel) (pa_cons (pv 4) pa_nil)) (nomark _)) (pw_and1 (pt_cmpR op_le (pv 1) (pe_ix (r := rIxL K) ix_list (pv 4) (pe_op op_sub (pv 2) pe_int) (fun _ _ => rfl)) (nomark _))))) (pss_one (ps_ret (pv 3))) pss_nil))))
  (pss_one (ps_ret (pe_un un_neg pe_int)))), ?_⟩
  cases dv with
  | @lst S vs _ hS al =>
  have lv := al.len
  rw [law_len] at lv
  have lr : (rep 9).length = 9 := by simp [rep]
  walk_at "r"
  refine ⟨_, rfl, by omega, by omega, ?_⟩
  refine for_range (lo := 0) (n := (vs.length : Int).toNat) (fun i σ H' => ∃ y3 y4, σ = [some (.ref S), some (.int p), some (.int q), y3, y4] ∧ H' = H ∧ ∀ k, k < i → gT 399 (rep (k + 1)) q < p)
    ⟨_, _, rfl, rfl, fun k h => absurd h (by omega)⟩ ?_ ?_
  · rintro i σ H' hi ⟨y3, y4, rfl, rfl, lt⟩
    rw [Int.toNat_natCast] at hi
    have i8 : i ≤ 8 := by omega
    obtain ⟨v8, h8⟩ : ∃ v, vs[8 - i]? = some v := ⟨_, List.getElem?_eq_getElem (by omega)⟩
    obtain ⟨g, c, hg, rfl, hc⟩ := lawD_at al h8
    obtain rfl : g = gT 399 (rep (i + 1)) := by
      have := gM_at (M := 399) (B := rep 9) (k := 8 - i) (by omega)
      rw [hg] at this
      rw [Option.some.inj this]
      unfold rep
      rw [List.drop_replicate, show 9 - (8 - i) = i + 1 by omega]
    walk_at "r"
    refine Jv.r_ixL (Jv.sqL_at hS) (Jv.at_i (by omega) (by rw [show ((vs.length : Int) - 1 - (0 + (i : Nat))).toNat = 8 - i by omega]; exact h8)) ?_
    walk_at "r"
    rw [List.length_map, tabl_len]
    have posq : q ≤ rN 399 (gT 399 (rep (i + 1))) 1 ↔ 1 ≤ gT 399 (rep (i + 1)) q := by
      have := rN_lt (M := 399) (m := 1) (j := q - 1) (gT_ant (M := 399) (B := rep (i + 1))) (by omega)
      rw [show q - 1 + 1 = q by omega] at this
      omega
    refine Jv.r_dec (fun z => ?_) (fun z => ?_)
    · walk_at "r"
      refine Jv.r_ixL (Jv.sqL_at hc) (Jv.at_i (v := .int (gT 399 (rep (i + 1)) q : Nat)) (by omega) (by rw [show ((q : Int) - 1).toNat = q - 1 by omega, List.getElem?_map, tabl_at (by omega), show q - 1 + 1 = q by omega]; rfl)) ?_
      walk_at "r"
      refine Jv.r_dec (fun z' => ?_) (fun z' => ?_)
      · walk_at "r"
        have := k i i8 (by omega) lt
        rw [Int.zero_add]
        exact this
      · refine ⟨_, _, rfl, rfl, fun k' hk => ?_⟩
        by_cases e : k' = i
        · subst e; omega
        · exact lt k' (by omega)
    · refine ⟨_, _, rfl, rfl, fun k' hk => ?_⟩
      by_cases e : k' = i
      · subst e
        have : ¬ 1 ≤ gT 399 (rep (k' + 1)) q := fun h => z (by have := posq.mpr h; omega)
        omega
      · exact lt k' (by omega)
  · rintro σ H' ⟨y3, y4, rfl, rfl, lt⟩
    rw [Int.toNat_natCast] at lt
    have h1 := lt 8 (by omega)
    have h2 : 8 ≤ gT 399 (rep 9) 8 := eight (M := 399) (by decide)
    have h3 := gT_anti (M := 399) (B := rep 9) q1 q8
    have h4 : gT 399 (rep (8 + 1)) q = gT 399 (rep 9) q := rfl
    omega
end
end K39

namespace K39
open PySem PySem.Spec PyProof.Rows L2
/-! ### what is none -/
theorem new_of {H G : Hp} {p : Addr} {u : HO} (hp : H p = none) (e : L2.upd H p u = G) : Same H G ∧ G p = some u := by subst e; exact ⟨Jv.same_new hp, upd_same⟩
theorem pickV {K : PySem.W.Frag} {H : Hp} {Q : VK} {t : Addr} {xs : List V} {z : Int} (e : H t = some (.lst xs)) (z0 : 0 ≤ z) (z1 : z < xs.length) (k : ∀ v, v ∈ xs → Q v H) : rIxL K (.ref t) (.int z) H Q := by
  have hz : z.toNat < xs.length := by omega
  exact Jv.r_ixL (Jv.sqL_at e) (Jv.at_i z0 (List.getElem?_eq_getElem hz)) (k _ (List.getElem_mem hz))
theorem badE_flat {d : PyData} {L : Int} (h : Jv.seqD d = none) (n : d ≠ .none) : BadE d L := ⟨n, fun ds e => by rw [h] at e; cases e⟩
theorem badE_seq {d : PyData} {ds : List PyData} {L : Int} (h : Jv.seqD d = some ds) (b : ds.all (fun e => Jv.wholeD e (.int 0) (.int L)) = false) (few : ds.length ≤ 200 := by exact Nat.le_of_ble_eq_true rfl) : BadE d L :=
  ⟨fun e => (by rw [e] at h; cases h), fun es e => (by rw [h] at e; cases e; exact ⟨few, b⟩)⟩
theorem badE_dict {L : Int} : BadE (Jv.dctD []) L := ⟨fun e => (by cases e), fun ds e => (by cases e)⟩
def sp_Lodd_ladder (K : PySem.W.Frag) : Sp := fun vs H Q _ => ∃ h hl, vs = [.ref h, .int 8] ∧ Jv.Hand H h hl ∧ ∀ v d H', Jv.Kp h H H' → Jv.Hand H' h hl → Jv.Dv K (Jv.hide [h] H') v d → Jv.wholeD d (.int 0) (.int 8) = false → Q v H'
def sp_Lodd_ends (K : PySem.W.Frag) : Sp := fun vs H Q _ => ∃ h hl, ∃ L : Nat, vs = [.ref h, .int L] ∧ Jv.Hand H h hl ∧ ∀ v d H', Jv.Kp h H H' → Jv.Hand H' h hl → Jv.Dw K (Jv.hide [h] H') v d → BadE d L → Q v H'
def sp_Lodd_kinds (K : PySem.W.Frag) : Sp := fun vs H Q _ => ∃ h hl, vs = [.ref h, .int 8] ∧ Jv.Hand H h hl ∧ ∀ v d H', Jv.Kp h H H' → Jv.Hand H' h hl → Jv.Dv K (Jv.hide [h] H') v d → Jv.wholeD d (.int 1) (.int 8) = false → Q v H'
section
variable {P : Program} {w : World} {K : PySem.W.Frag} {mg : Str → Option Value} {base : Heap}
theorem ok_Lodd_ladder (T : Tx) (O : Ok K mg T) : FnOk P w K mg base CX0 3 T.f_Lodd_ladder T.d_Lodd_ladder ["_law_hand_here", "_law_most"] (sp_Lodd_ladder K) := by
  refine O.F_Lodd_ladder.ok sc_Lodd_ladder (fun vs H Q E h => by obtain ⟨_, _, rfl, _⟩ := h; rfl) (fun cdv A outer s H vs Q E hr h => ?_)
  obtain ⟨h, hl, rfl, hh, q⟩ := h
  refine ⟨_, (pss_cons (ps_set (i := 2) sc_Lodd_ladder.nd rfl (Or.inl rfl) (pe_lst (pa_cons (pe_un un_neg pe_int) (pa_cons (pe_op op_add (pv 1) pe_int) (pa_cons pe_non (pa_cons pe_bl (pa_cons pe_str (pa_cons (pe_tup (pa_cons pe_int pa_nil)) (pa_cons (pe_op op_pow pe_int pe_int) (pa_cons pe_bl (pa_cons (pe_un un_neg (pe_op op_pow pe_int pe_int)) (pa_cons (pe_lst (pa_cons pe_int pa_nil)) pa_nil))))))))))))
  (pss_one (ps_ret (pe_ix (r := rIxL K) ix_list (pv 2) (pe_call (ok_Ldraw T O) (hr.mono (by decide)) (by rfl) O.m_Ldraw O.F_Ldraw.kp O.b_Ldraw .nil pass0 (pa_cons (pv 0) (pa_cons (pe_callB (r := Jv.rLenK K) Jv.cr_len (by rfl) O.z_len (by decide +kernel) (pa_cons (pv 2) pa_nil)) pa_nil))) (fun _ _ => rfl))))), ?_⟩
  have kp : Jv.Kp h H H := Jv.Kp.refl
  walk_at "r"
  intro t1 ht1
  generalize e1 : L2.upd _ _ _ = G1
  obtain ⟨s1, f1⟩ := new_of ht1 e1
  clear e1
  obtain ⟨n1, _⟩ := hh.ne2 ht1
  replace hh := hh.same s1
  replace kp := kp.trans (Jv.Kp.same s1)
  clear s1 ht1
  walk_at "r"
  intro t2 ht2
  generalize e2 : L2.upd _ _ _ = G2
  obtain ⟨s2, f2⟩ := new_of ht2 e2
  clear e2
  obtain ⟨n2, _⟩ := hh.ne2 ht2
  replace hh := hh.same s2
  replace kp := kp.trans (Jv.Kp.same s2)
  replace f1 := s2 _ _ f1
  clear s2 ht2
  walk_at "r"
  intro t3 ht3
  generalize e3 : L2.upd _ _ _ = G3
  obtain ⟨s3, f3⟩ := new_of ht3 e3
  clear e3
  obtain ⟨n3, _⟩ := hh.ne2 ht3
  replace hh := hh.same s3
  replace kp := kp.trans (Jv.Kp.same s3)
  replace f1 := s3 _ _ f1
  replace f2 := s3 _ _ f2
  clear s3 ht3
  walk_at "r"
  refine dr (m := 10) hh (by decide) (by decide) fun z H4 z0 z1 k4 h4 => ?_
  replace f1 := k4 _ _ n1 f1
  replace f2 := k4 _ _ n2 f2
  replace f3 := k4 _ _ n3 f3
  replace kp := kp.trans k4
  walk_at "r"
  refine pickV f3 z0 z1 fun v hv => ?_
  simp only [List.mem_cons, List.not_mem_nil, or_false] at hv
  rcases hv with rfl | rfl | rfl | rfl | rfl | rfl | rfl | rfl | rfl | rfl
  · exact q _ (.int (-1)) _ kp h4 (.int _) (by first | rfl | decide +kernel)
  · exact q _ (.int (8 + 1)) _ kp h4 (.int _) (by first | rfl | decide +kernel)
  · exact q _ (.none) _ kp h4 (.non) (by first | rfl | decide +kernel)
  · exact q _ (.bool true) _ kp h4 (.bl _) (by first | rfl | decide +kernel)
  · exact q _ (.str "2") _ kp h4 (.str _) (by first | rfl | decide +kernel)
  · exact q _ (.tuple [.int (2)]) _ kp h4 (.tup (Jv.sqT_at (Jv.hide_one n1 f1)) (.cons (.int _) .nil)) (by first | rfl | decide +kernel)
  · exact q _ (.int (10 ^ Int.toNat 30)) _ kp h4 (.int _) (by first | rfl | decide +kernel)
  · exact q _ (.bool false) _ kp h4 (.bl _) (by first | rfl | decide +kernel)
  · exact q _ (.int (-10 ^ Int.toNat 20)) _ kp h4 (.int _) (by first | rfl | decide +kernel)
  · exact q _ (.list [.int (1)]) _ kp h4 (.lst (Jv.hide_one n2 f2) (.cons (.int _) .nil)) (by first | rfl | decide +kernel)
theorem ok_Lodd_ends (T : Tx) (O : Ok K mg T) : FnOk P w K mg base CX0 3 T.f_Lodd_ends T.d_Lodd_ends ["_law_hand_here", "_law_ladder"] (sp_Lodd_ends K) := by
  refine O.F_Lodd_ends.ok sc_Lodd_ends (fun vs H Q E h => by obtain ⟨_, _, _, rfl, _⟩ := h; rfl) (fun cdv A outer s H vs Q E hr h => ?_)
  obtain ⟨h, hl, L, rfl, hh, q⟩ := h
  refine ⟨_, (pss_cons (ps_set (i := 2) sc_Lodd_ends.nd rfl (Or.inl rfl) (pe_lst (pa_cons pe_int (pa_cons pe_str (pa_cons (pe_lst (pa_cons (pe_op op_add (pv 1) pe_int) pa_nil)) (pa_cons (pe_tup (pa_cons (pe_un un_neg pe_int) pa_nil)) (pa_cons (pe_lst (pa_cons pe_int (pa_cons pe_bl pa_nil))) (pa_cons (pe_lst (pa_cons pe_non pa_nil)) (pa_cons (pe_tup (pa_cons (pe_tup (pa_cons pe_int pa_nil)) pa_nil)) (pa_cons pe_dnewK (pa_cons (pe_lst (pa_cons pe_int (pa_cons (pe_un un_neg pe_int) pa_nil))) (pa_cons (pe_lst (pa_cons pe_int (pa_cons (pe_op op_add (pv 1) pe_int) pa_nil))) (pa_cons (pe_lst (pa_cons pe_str pa_nil)) (pa_cons (pe_op op_pow pe_int pe_int) pa_nil))))))))))))))
  (pss_one (ps_ret (pe_ix (r := rIxL K) ix_list (pv 2) (pe_call (ok_Ldraw T O) (hr.mono (by decide)) (by rfl) O.m_Ldraw O.F_Ldraw.kp O.b_Ldraw .nil pass0 (pa_cons (pv 0) (pa_cons (pe_callB (r := Jv.rLenK K) Jv.cr_len (by rfl) O.z_len (by decide +kernel) (pa_cons (pv 2) pa_nil)) pa_nil))) (fun _ _ => rfl))))), ?_⟩
  have kp : Jv.Kp h H H := Jv.Kp.refl
  walk_at "r"
  intro t1 ht1
  generalize e1 : L2.upd _ _ _ = G1
  obtain ⟨s1, f1⟩ := new_of ht1 e1
  clear e1
  obtain ⟨n1, _⟩ := hh.ne2 ht1
  replace hh := hh.same s1
  replace kp := kp.trans (Jv.Kp.same s1)
  clear s1 ht1
  walk_at "r"
  intro t2 ht2
  generalize e2 : L2.upd _ _ _ = G2
  obtain ⟨s2, f2⟩ := new_of ht2 e2
  clear e2
  obtain ⟨n2, _⟩ := hh.ne2 ht2
  replace hh := hh.same s2
  replace kp := kp.trans (Jv.Kp.same s2)
  replace f1 := s2 _ _ f1
  clear s2 ht2
  walk_at "r"
  intro t3 ht3
  generalize e3 : L2.upd _ _ _ = G3
  obtain ⟨s3, f3⟩ := new_of ht3 e3
  clear e3
  obtain ⟨n3, _⟩ := hh.ne2 ht3
  replace hh := hh.same s3
  replace kp := kp.trans (Jv.Kp.same s3)
  replace f1 := s3 _ _ f1
  replace f2 := s3 _ _ f2
  clear s3 ht3
  walk_at "r"
  intro t4 ht4
  generalize e4 : L2.upd _ _ _ = G4
  obtain ⟨s4, f4⟩ := new_of ht4 e4
  clear e4
  obtain ⟨n4, _⟩ := hh.ne2 ht4
  replace hh := hh.same s4
  replace kp := kp.trans (Jv.Kp.same s4)
  replace f1 := s4 _ _ f1
  replace f2 := s4 _ _ f2
  replace f3 := s4 _ _ f3
  clear s4 ht4
  walk_at "r"
  intro t5 ht5
  generalize e5 : L2.upd _ _ _ = G5
  obtain ⟨s5, f5⟩ := new_of ht5 e5
  clear e5
  obtain ⟨n5, _⟩ := hh.ne2 ht5
  replace hh := hh.same s5
  replace kp := kp.trans (Jv.Kp.same s5)
  replace f1 := s5 _ _ f1
  replace f2 := s5 _ _ f2
  replace f3 := s5 _ _ f3
  replace f4 := s5 _ _ f4
  clear s5 ht5
  walk_at "r"
  intro t6 ht6
  generalize e6 : L2.upd _ _ _ = G6
  obtain ⟨s6, f6⟩ := new_of ht6 e6
  clear e6
  obtain ⟨n6, _⟩ := hh.ne2 ht6
  replace hh := hh.same s6
  replace kp := kp.trans (Jv.Kp.same s6)
  replace f1 := s6 _ _ f1
  replace f2 := s6 _ _ f2
  replace f3 := s6 _ _ f3
  replace f4 := s6 _ _ f4
  replace f5 := s6 _ _ f5
  clear s6 ht6
  walk_at "r"
  intro t7 ht7
  generalize e7 : L2.upd _ _ _ = G7
  obtain ⟨s7, f7⟩ := new_of ht7 e7
  clear e7
  obtain ⟨n7, _⟩ := hh.ne2 ht7
  replace hh := hh.same s7
  replace kp := kp.trans (Jv.Kp.same s7)
  replace f1 := s7 _ _ f1
  replace f2 := s7 _ _ f2
  replace f3 := s7 _ _ f3
  replace f4 := s7 _ _ f4
  replace f5 := s7 _ _ f5
  replace f6 := s7 _ _ f6
  clear s7 ht7
  walk_at "r"
  intro t8 ht8
  generalize e8 : L2.upd _ _ _ = G8
  obtain ⟨s8, f8⟩ := new_of ht8 e8
  clear e8
  obtain ⟨n8, _⟩ := hh.ne2 ht8
  replace hh := hh.same s8
  replace kp := kp.trans (Jv.Kp.same s8)
  replace f1 := s8 _ _ f1
  replace f2 := s8 _ _ f2
  replace f3 := s8 _ _ f3
  replace f4 := s8 _ _ f4
  replace f5 := s8 _ _ f5
  replace f6 := s8 _ _ f6
  replace f7 := s8 _ _ f7
  clear s8 ht8
  walk_at "r"
  intro t9 ht9
  generalize e9 : L2.upd _ _ _ = G9
  obtain ⟨s9, f9⟩ := new_of ht9 e9
  clear e9
  obtain ⟨n9, _⟩ := hh.ne2 ht9
  replace hh := hh.same s9
  replace kp := kp.trans (Jv.Kp.same s9)
  replace f1 := s9 _ _ f1
  replace f2 := s9 _ _ f2
  replace f3 := s9 _ _ f3
  replace f4 := s9 _ _ f4
  replace f5 := s9 _ _ f5
  replace f6 := s9 _ _ f6
  replace f7 := s9 _ _ f7
  replace f8 := s9 _ _ f8
  clear s9 ht9
  walk_at "r"
  intro t10 ht10
  generalize e10 : L2.upd _ _ _ = G10
  obtain ⟨s10, f10⟩ := new_of ht10 e10
  clear e10
  obtain ⟨n10, _⟩ := hh.ne2 ht10
  replace hh := hh.same s10
  replace kp := kp.trans (Jv.Kp.same s10)
  replace f1 := s10 _ _ f1
  replace f2 := s10 _ _ f2
  replace f3 := s10 _ _ f3
  replace f4 := s10 _ _ f4
  replace f5 := s10 _ _ f5
  replace f6 := s10 _ _ f6
  replace f7 := s10 _ _ f7
  replace f8 := s10 _ _ f8
  replace f9 := s10 _ _ f9
  clear s10 ht10
  walk_at "r"
  intro t11 ht11
  generalize e11 : L2.upd _ _ _ = G11
  obtain ⟨s11, f11⟩ := new_of ht11 e11
  clear e11
  obtain ⟨n11, _⟩ := hh.ne2 ht11
  replace hh := hh.same s11
  replace kp := kp.trans (Jv.Kp.same s11)
  replace f1 := s11 _ _ f1
  replace f2 := s11 _ _ f2
  replace f3 := s11 _ _ f3
  replace f4 := s11 _ _ f4
  replace f5 := s11 _ _ f5
  replace f6 := s11 _ _ f6
  replace f7 := s11 _ _ f7
  replace f8 := s11 _ _ f8
  replace f9 := s11 _ _ f9
  replace f10 := s11 _ _ f10
  clear s11 ht11
  walk_at "r"
  refine dr (m := 12) hh (by decide) (by decide) fun z H4 z0 z1 k4 h4 => ?_
  replace f1 := k4 _ _ n1 f1
  replace f2 := k4 _ _ n2 f2
  replace f3 := k4 _ _ n3 f3
  replace f4 := k4 _ _ n4 f4
  replace f5 := k4 _ _ n5 f5
  replace f6 := k4 _ _ n6 f6
  replace f7 := k4 _ _ n7 f7
  replace f8 := k4 _ _ n8 f8
  replace f9 := k4 _ _ n9 f9
  replace f10 := k4 _ _ n10 f10
  replace f11 := k4 _ _ n11 f11
  replace kp := kp.trans k4
  walk_at "r"
  refine pickV f11 z0 z1 fun v hv => ?_
  simp only [List.mem_cons, List.not_mem_nil, or_false] at hv
  rcases hv with rfl | rfl | rfl | rfl | rfl | rfl | rfl | rfl | rfl | rfl | rfl | rfl
  · exact q _ (.int (0)) _ kp h4 (.dv (.int _)) (badE_flat rfl (by simp))
  · exact q _ (.str "01") _ kp h4 (.dv (.str _)) (badE_flat rfl (by simp))
  · exact q _ (.list [.int ((L : Nat) + 1)]) _ kp h4 (.dv (.lst (Jv.hide_one n1 f1) (.cons (.int _) .nil))) (badE_seq (by rfl) (by first | rfl | decide +kernel | (simp [Jv.wholeD, Jv.loOk, Jv.hiOk]; done) | (simp [Jv.wholeD, Jv.loOk, Jv.hiOk]; omega)))
  · exact q _ (.tuple [.int (-1)]) _ kp h4 (.dv (.tup (Jv.sqT_at (Jv.hide_one n2 f2)) (.cons (.int _) .nil))) (badE_seq (by rfl) (by first | rfl | decide +kernel | (simp [Jv.wholeD, Jv.loOk, Jv.hiOk]; done) | (simp [Jv.wholeD, Jv.loOk, Jv.hiOk]; omega)))
  · exact q _ (.list [.int (0), .bool true]) _ kp h4 (.dv (.lst (Jv.hide_one n3 f3) (.cons (.int _) (.cons (.bl _) .nil)))) (badE_seq (by rfl) (by first | rfl | decide +kernel | (simp [Jv.wholeD, Jv.loOk, Jv.hiOk]; done) | (simp [Jv.wholeD, Jv.loOk, Jv.hiOk]; omega)))
  · exact q _ (.list [.none]) _ kp h4 (.dv (.lst (Jv.hide_one n4 f4) (.cons (.non) .nil))) (badE_seq (by rfl) (by first | rfl | decide +kernel | (simp [Jv.wholeD, Jv.loOk, Jv.hiOk]; done) | (simp [Jv.wholeD, Jv.loOk, Jv.hiOk]; omega)))
  · exact q _ (.tuple [.tuple [.int (0)]]) _ kp h4 (.dv (.tup (Jv.sqT_at (Jv.hide_one n6 f6)) (.cons (.tup (Jv.sqT_at (Jv.hide_one n5 f5)) (.cons (.int _) .nil)) .nil))) (badE_seq (by rfl) (by first | rfl | decide +kernel | (simp [Jv.wholeD, Jv.loOk, Jv.hiOk]; done) | (simp [Jv.wholeD, Jv.loOk, Jv.hiOk]; omega)))
  · exact q _ (Jv.dctD []) _ kp h4 (.dct (Jv.hide_one n7 f7)) badE_dict
  · exact q _ (.list [.int (0), .int (-1)]) _ kp h4 (.dv (.lst (Jv.hide_one n8 f8) (.cons (.int _) (.cons (.int _) .nil)))) (badE_seq (by rfl) (by first | rfl | decide +kernel | (simp [Jv.wholeD, Jv.loOk, Jv.hiOk]; done) | (simp [Jv.wholeD, Jv.loOk, Jv.hiOk]; omega)))
  · exact q _ (.list [.int (0), .int ((L : Nat) + 1)]) _ kp h4 (.dv (.lst (Jv.hide_one n9 f9) (.cons (.int _) (.cons (.int _) .nil)))) (badE_seq (by rfl) (by first | rfl | decide +kernel | (simp [Jv.wholeD, Jv.loOk, Jv.hiOk]; done) | (simp [Jv.wholeD, Jv.loOk, Jv.hiOk]; omega)))
  · exact q _ (.list [.str "0"]) _ kp h4 (.dv (.lst (Jv.hide_one n10 f10) (.cons (.str _) .nil))) (badE_seq (by rfl) (by first | rfl | decide +kernel | (simp [Jv.wholeD, Jv.loOk, Jv.hiOk]; done) | (simp [Jv.wholeD, Jv.loOk, Jv.hiOk]; omega)))
  · exact q _ (.int (10 ^ Int.toNat 20)) _ kp h4 (.dv (.int _)) (badE_flat rfl (by simp))
theorem ok_Lodd_kinds (T : Tx) (O : Ok K mg T) : FnOk P w K mg base CX0 3 T.f_Lodd_kinds T.d_Lodd_kinds ["_law_hand_here", "_law_most"] (sp_Lodd_kinds K) := by
  refine O.F_Lodd_kinds.ok sc_Lodd_kinds (fun vs H Q E h => by obtain ⟨_, _, rfl, _⟩ := h; rfl) (fun cdv A outer s H vs Q E hr h => ?_)
  obtain ⟨h, hl, rfl, hh, q⟩ := h
  refine ⟨_, (pss_cons (ps_set (i := 2) sc_Lodd_kinds.nd rfl (Or.inl rfl) (pe_lst (pa_cons pe_int (pa_cons (pe_un un_neg pe_int) (pa_cons (pe_op op_add (pv 1) pe_int) (pa_cons pe_non (pa_cons pe_bl (pa_cons pe_str (pa_cons (pe_tup (pa_cons pe_int pa_nil)) (pa_cons (pe_un un_neg (pe_op op_pow pe_int pe_int)) (pa_cons (pe_lst (pa_cons pe_int pa_nil)) (pa_cons pe_bl pa_nil))))))))))))
  (pss_one (ps_ret (pe_ix (r := rIxL K) ix_list (pv 2) (pe_call (ok_Ldraw T O) (hr.mono (by decide)) (by rfl) O.m_Ldraw O.F_Ldraw.kp O.b_Ldraw .nil pass0 (pa_cons (pv 0) (pa_cons (pe_callB (r := Jv.rLenK K) Jv.cr_len (by rfl) O.z_len (by decide +kernel) (pa_cons (pv 2) pa_nil)) pa_nil))) (fun _ _ => rfl))))), ?_⟩
  have kp : Jv.Kp h H H := Jv.Kp.refl
  walk_at "r"
  intro t1 ht1
  generalize e1 : L2.upd _ _ _ = G1
  obtain ⟨s1, f1⟩ := new_of ht1 e1
  clear e1
  obtain ⟨n1, _⟩ := hh.ne2 ht1
  replace hh := hh.same s1
  replace kp := kp.trans (Jv.Kp.same s1)
  clear s1 ht1
  walk_at "r"
  intro t2 ht2
  generalize e2 : L2.upd _ _ _ = G2
  obtain ⟨s2, f2⟩ := new_of ht2 e2
  clear e2
  obtain ⟨n2, _⟩ := hh.ne2 ht2
  replace hh := hh.same s2
  replace kp := kp.trans (Jv.Kp.same s2)
  replace f1 := s2 _ _ f1
  clear s2 ht2
  walk_at "r"
  intro t3 ht3
  generalize e3 : L2.upd _ _ _ = G3
  obtain ⟨s3, f3⟩ := new_of ht3 e3
  clear e3
  obtain ⟨n3, _⟩ := hh.ne2 ht3
  replace hh := hh.same s3
  replace kp := kp.trans (Jv.Kp.same s3)
  replace f1 := s3 _ _ f1
  replace f2 := s3 _ _ f2
  clear s3 ht3
  walk_at "r"
  refine dr (m := 10) hh (by decide) (by decide) fun z H4 z0 z1 k4 h4 => ?_
  replace f1 := k4 _ _ n1 f1
  replace f2 := k4 _ _ n2 f2
  replace f3 := k4 _ _ n3 f3
  replace kp := kp.trans k4
  walk_at "r"
  refine pickV f3 z0 z1 fun v hv => ?_
  simp only [List.mem_cons, List.not_mem_nil, or_false] at hv
  rcases hv with rfl | rfl | rfl | rfl | rfl | rfl | rfl | rfl | rfl | rfl
  · exact q _ (.int (0)) _ kp h4 (.int _) (by first | rfl | decide +kernel)
  · exact q _ (.int (-1)) _ kp h4 (.int _) (by first | rfl | decide +kernel)
  · exact q _ (.int (8 + 1)) _ kp h4 (.int _) (by first | rfl | decide +kernel)
  · exact q _ (.none) _ kp h4 (.non) (by first | rfl | decide +kernel)
  · exact q _ (.bool true) _ kp h4 (.bl _) (by first | rfl | decide +kernel)
  · exact q _ (.str "1") _ kp h4 (.str _) (by first | rfl | decide +kernel)
  · exact q _ (.tuple [.int (1)]) _ kp h4 (.tup (Jv.sqT_at (Jv.hide_one n1 f1)) (.cons (.int _) .nil)) (by first | rfl | decide +kernel)
  · exact q _ (.int (-10 ^ Int.toNat 20)) _ kp h4 (.int _) (by first | rfl | decide +kernel)
  · exact q _ (.list [.int (2)]) _ kp h4 (.lst (Jv.hide_one n2 f2) (.cons (.int _) .nil)) (by first | rfl | decide +kernel)
  · exact q _ (.bool false) _ kp h4 (.bl _) (by first | rfl | decide +kernel)
end
end K39

namespace Jv
open PySem PySem.Spec PyProof.Rows L2
/-! ### hand, data and tables where lambdas are made -/
theorem Hand.ext {H H' : Hp} {p l : Addr} (h : Hand H p l) (e : LamX.ExtN H H') : Hand H' p l := by
  obtain ⟨ns, k, c, t, hA⟩ := h
  exact ⟨ns, k, c, t, e _ _ hA.hp (fun ps z => by cases z), e _ _ hA.hl (fun ps z => by cases z), hA.nn, hA.few, hA.bd⟩
theorem tabs_kp {T : List (Addr × Str)} {H H' : Hp} {p l : Addr} (t : LamX.Tabs T H) (h : Hand H p l) (k : Kp p H H') : LamX.Tabs T H' := fun q hq => by
  obtain ⟨ps, h1, h2, h3⟩ := t q hq
  obtain ⟨ns, kk, c, tt, hA⟩ := h
  have ne : ∀ b o, H b = some o → (∀ xs, o ≠ .lst xs) → b ≠ p := fun b o e n z => by
    rw [z, hA.hp] at e
    exact n _ (Option.some.inj e).symm
  refine ⟨ps, k _ _ (ne _ _ h1 (fun xs z => by cases z)) h1, h2, fun pos cv hc => ?_⟩
  obtain ⟨c, e1, e2⟩ := h3 pos cv hc
  exact ⟨c, e1, k _ _ (ne _ _ e2 (fun xs z => by unfold LamX.CodeO at z; cases z)) e2⟩
theorem sqT_ext {K : PySem.W.Frag} {H H' : Hp} {a : Addr} {xs : List V} (e : LamX.ExtN H H') (h : SqT K H a xs) : SqT K H' a xs := by
  rcases h with (h | ⟨o, h⟩) | h
  · exact .inl (.inl (e _ _ h (fun _ z => by cases z)))
  · exact .inl (.inr ⟨o, e _ _ h (fun _ z => by cases z)⟩)
  · exact .inr h
mutual
theorem Dv.ext {K : PySem.W.Frag} {H H' : Hp} (s : LamX.ExtN H H') : ∀ {v : V} {d : PyData}, Dv K H v d → Dv K H' v d
  | _, _, .non => .non
  | _, _, .bl b => .bl b
  | _, _, .int i => .int i
  | _, _, .str x => .str x
  | _, _, .lst h q => .lst (s _ _ h (fun _ z => by cases z)) (DvAll.ext s q)
  | _, _, .tup h q => .tup (sqT_ext s h) (DvAll.ext s q)
theorem DvAll.ext {K : PySem.W.Frag} {H H' : Hp} (s : LamX.ExtN H H') : ∀ {vs : List V} {ds : List PyData}, DvAll K H vs ds → DvAll K H' vs ds
  | _, _, .nil => .nil
  | _, _, .cons a b => .cons (Dv.ext s a) (DvAll.ext s b)
end
theorem Dw.ext {K : PySem.W.Frag} {H H' : Hp} {v : V} {d : PyData} (s : LamX.ExtN H H') (h : Dw K H v d) : Dw K H' v d := by
  cases h with
  | dv h => exact .dv (h.ext s)
  | dct h => exact .dct (s _ _ h (fun _ z => by cases z))
end Jv

namespace Jv
open PySem PySem.Spec PyProof.Rows L2
/-! ### a clause of another class -/
theorem exm_no {K : PySem.W.Frag} {C D : Addr} (b : PySem.W.subIn K (.ref D) (.type "BaseException") = some true) (i : PySem.W.isClsIn K D = true) (t : PySem.W.typeIn K (.ref D) = some (.type "type")) (s : PySem.W.subIn K (.ref C) (.ref D) = some false) :
    PySem.W.exmOne K (.ref C) (.ref D) = some false := by
  have i' : (PySem.W.clsIn K D).isSome = true := i
  unfold PySem.W.exmOne PySem.W.kitCls
  simp [b, i', t, s]
theorem ExcP.no {K : PySem.W.Frag} {C D : Addr} (h : ExcP K D) (s : PySem.W.subIn K (.ref C) (.ref D) = some false) : PySem.W.exmOne K (.ref C) (.ref D) = some false := exm_no h.b h.i h.t s
end Jv
namespace K39
open PySem PySem.Spec PyProof.Rows L2
/-! ### at the door; what a call that is handed in tells -/
def sp_Lat_door (K : PySem.W.Frag) (T : Tx) : Sp := fun vs H Q E => ∃ (way : Int) (vl vm ve : V) (dm dl de : PyData), vs = [.int way, vl, vm, ve] ∧ 0 ≤ way ∧ way ≤ 4 ∧ Jv.Dv K H vm dm ∧ Jv.Dv K H vl dl ∧ Jv.Dw K H ve de ∧
  ((Jv.wholeD dl (.int 0) (.int 8) = false ∧ ∀ H', Same H H' → E (.ref T.C_BadLadder) none H') ∨ ∃ L : Nat, dl = .int L ∧ L ≤ 8 ∧
    ((BadE de L ∧ ∀ H', Same H H' → E (.ref T.C_BadEnds) none H') ∨ ∃ A, EndsOf de L A ∧ way < 4 ∧ Jv.wholeD dm (.int 1) .non = false ∧ ∀ H', Same H H' → E (.ref T.C_BadKinds) none H'))
/-- the call's reading: a raise of an exception without fields, or an answer -/
def TTref (T : Tx) : (XK → Hp → VK → Prop) → Hp → VK → Prop := fun tl H Q => ∀ R : VK, (∀ v H', Q v H' → R v H') →
  tl (fun cls d H' => d = none ∧ ((cls = .ref T.C_BadLadder ∧ Q (.str "ladder") H') ∨ (cls = .ref T.C_BadEnds ∧ Q (.str "ends") H') ∨ (cls = .ref T.C_BadKinds ∧ Q (.str "kinds") H'))) H R
theorem slots2 {σ : L2.St} (h : σ.length = 2) : ∃ x y, σ = [x, y] := by
  match σ, h with
  | [x, y], _ => exact ⟨x, y, rfl⟩
section
variable {X : Cx}
theorem refused_gives (T : Tx) (O : Ok X.K X.mg T) {g : Addr} {cdg : Value} {q : Str} : LamX.GivesTo X ["_law_call", "_law_found"] "_law_refused" (defScope s_Lrefused) g cdg (defBody s_Lrefused) "_law_call" q (TTref T) := by
  intro f c' s H Q tl act hc h
  refine ⟨_, (pss_cons (Jv.ps_tryMix rfl rfl takes0 (Jv.Cls2.bare ⟨rfl, by decide, .inl O.m_BadLadder⟩ (fun a oe cls d pn _ _ => (pss_one (ps_ret pe_str))) (Jv.Cls2.bare ⟨rfl, by decide, .inl O.m_BadEnds⟩ (fun a oe cls d pn _ _ => (pss_one (ps_ret pe_str))) (Jv.Cls2.bare ⟨rfl, by decide, .inl O.m_BadKinds⟩ (fun a oe cls d pn _ _ => (pss_one (ps_ret pe_str))) Jv.Cls2.nil))) (fun W pn xe tk _ => (pss_one (ps_set (i := 1) sc_Lrefused.nd rfl (Or.inl rfl) (Jv.pe_exL (n := 2) rfl tk fun E W2 tk2 hW => act W2 pn xe E _ _ tk2 hW)))))
  (pss_one (ps_ret (pv 1)))), ?_⟩
  refine ⟨fun cls d H' => d = none ∧ ((cls = .ref T.C_BadLadder ∧ Q (.str "ladder") H') ∨ (cls = .ref T.C_BadEnds ∧ Q (.str "ends") H') ∨ (cls = .ref T.C_BadKinds ∧ Q (.str "kinds") H')), fun cls d σ' H' hE hl => ?_, rfl, hc, h _ fun v H' hv => ?_⟩
  · obtain ⟨s0, s1, rfl⟩ := slots2 hl
    obtain ⟨rfl, ⟨rfl, k⟩ | ⟨rfl, k⟩ | ⟨rfl, k⟩⟩ := hE
    · refine ⟨true, O.e_BadLadder.e, fun _ a ha => ?_, fun z => nomatch z⟩
      walk_at "r"
      exact k
    · refine ⟨false, O.e_BadLadder.no O.u_BadEnds_BadLadder, fun z => (nomatch z), fun _ => ?_⟩
      refine ⟨true, O.e_BadEnds.e, fun _ a ha => ?_, fun z => nomatch z⟩
      walk_at "r"
      exact k
    · refine ⟨false, O.e_BadLadder.no O.u_BadKinds_BadLadder, fun z => (nomatch z), fun _ => ?_⟩
      refine ⟨false, O.e_BadEnds.no O.u_BadKinds_BadEnds, fun z => (nomatch z), fun _ => ?_⟩
      refine ⟨true, O.e_BadKinds.e, fun _ a ha => ?_, fun z => nomatch z⟩
      walk_at "r"
      exact k
  · walk_at "r"
    exact hv
end
section
variable {P : Program} {w : World} {K : PySem.W.Frag} {mg : Str → Option Value} {base : Heap}
theorem ok_Lat_door (T : Tx) (O : Ok K mg T) : FnOk P w K mg base (L2.CX P w) 8 T.f_Lat_door T.d_Lat_door ["_law_way", "_law_ladder", "_law_many", "_law_limits"] (sp_Lat_door K T) := by
  refine O.F_Lat_door.okX sc_Lat_door (fun vs H Q E h => by obtain ⟨_, _, _, _, _, _, _, rfl, _⟩ := h; rfl) (fun cdv A0 outer s H vs Q E hr h => ?_)
  obtain ⟨way, vl, vm, ve, dm, dl, de, rfl, w0, w4, hm, hl, he, h⟩ := h
  refine ⟨_, (pss_cons (ps_if (pt_cmpR op_eq (pv 0) pe_int (nomark _)) (pss_one (ps_ret (Jv.pe_callNS (ok_most_both T O) (hr.mono (by decide)) (by rfl) O.m_most_both O.F_most_both.kp O.kb2_ends_most_both (fun σ => passAt (takes_of rfl rfl rfl rfl) σ) (pa_cons (pv 1) (pa_cons (pv 2) pa_nil)) (pk_cons (pv 3) pk_nil)))) pss_nil)
  (pss_cons (ps_if (pt_cmpR op_eq (pv 0) pe_int (nomark _)) (pss_one (ps_ret (Jv.pe_callNS (ok_both_split T O) (hr.mono (by decide)) (by rfl) O.m_both_split O.F_both_split.kp O.kb2_ends_both_split (fun σ => passAt (takes_of rfl rfl rfl rfl) σ) (pa_cons (pv 1) (pa_cons (pv 2) pa_nil)) (pk_cons (pv 3) pk_nil)))) pss_nil)
  (pss_cons (ps_if (pt_cmpR op_eq (pv 0) pe_int (nomark _)) (pss_one (ps_ret (Jv.pe_callNS (ok_serves_both T O) (hr.mono (by decide)) (by rfl) O.m_serves_both O.F_serves_both.kp O.kb3_ends_serves_both (fun σ => passAt (takes_of rfl rfl rfl rfl) σ) (pa_cons (pv 1) (pa_cons (pv 2) (pa_cons pe_int pa_nil))) (pk_cons (pv 3) pk_nil)))) pss_nil)
  (pss_cons (ps_if (pt_cmpR op_eq (pv 0) pe_int (nomark _)) (pss_one (ps_ret (Jv.pe_callNS (ok_serves_both T O) (hr.mono (by decide)) (by rfl) O.m_serves_both O.F_serves_both.kp O.kb3_ends_serves_both (fun σ => passAt (takes_of rfl rfl rfl rfl) σ) (pa_cons (pv 1) (pa_cons pe_int (pa_cons (pv 2) pa_nil))) (pk_cons (pv 3) pk_nil)))) pss_nil)
  (pss_one (ps_ret (Jv.pe_callNS (ok_staircase T O) (hr.mono (by decide)) (by rfl) O.m_staircase O.F_staircase.kp O.kb1_ends_staircase (fun σ => passAt (takes_of rfl rfl rfl rfl) σ) (pa_cons (pv 1) pa_nil) (pk_cons (pv 3) pk_nil)))))))), ?_⟩
  have door : ∀ (dns : List PyData) (good : Nat → List Bool → Prop), (way < 4 → Jv.wholeD dm (.int 1) .non = false → dns.all (fun d => Jv.wholeD d (.int 1) .non) = false) → Door K T H vl ve dns E good := fun dns good f => by
    refine ⟨dl, de, hl, he, ?_⟩
    rcases h with k | ⟨L, e, hL, k | ⟨A, hA, lt, bad, k⟩⟩
    · exact .inl k
    · exact .inr ⟨L, e, hL, .inl k⟩
    · exact .inr ⟨L, e, hL, .inr ⟨A, hA, .inl ⟨f lt bad, k⟩⟩⟩
  clear h
  walk_at "r"
  refine Jv.r_decI (fun _ => ?_) (fun n0 => ?_)
  · walk_at "r"
    refine Jv.r_callNS ?_
    walk_at "r"
    exact ⟨rfl, rfl, vl, vm, ve, dm, rfl, hm, door _ _ fun _ b => by simp [b]⟩
  refine Jv.r_next ?_
  walk_at "r"
  refine Jv.r_decI (fun _ => ?_) (fun n1 => ?_)
  · walk_at "r"
    refine Jv.r_callNS ?_
    walk_at "r"
    exact ⟨rfl, rfl, vl, vm, ve, dm, rfl, hm, door _ _ fun _ b => by simp [b]⟩
  refine Jv.r_next ?_
  walk_at "r"
  refine Jv.r_decI (fun _ => ?_) (fun n2 => ?_)
  · walk_at "r"
    refine Jv.r_callNS ?_
    walk_at "r"
    exact ⟨rfl, rfl, vl, vm, .int 1, ve, dm, .int 1, rfl, hm, .int 1, door _ _ fun _ b => by simp [b]⟩
  refine Jv.r_next ?_
  walk_at "r"
  refine Jv.r_decI (fun _ => ?_) (fun n3 => ?_)
  · walk_at "r"
    refine Jv.r_callNS ?_
    walk_at "r"
    exact ⟨rfl, rfl, vl, .int 1, vm, ve, .int 1, dm, rfl, .int 1, hm, door _ _ fun _ b => by simp [b]⟩
  refine Jv.r_next ?_
  walk_at "r"
  refine Jv.r_callNS ?_
  walk_at "r"
  exact ⟨rfl, rfl, vl, ve, rfl, door _ _ fun lt _ => absurd lt (by omega)⟩
end
end K39

namespace K39
open PySem PySem.Spec PyProof.Rows L2
/-! ### one number of the other side's kinds -/
def sp_Lright_number (K : PySem.W.Frag) : Sp := fun vs H Q _ => ∃ (L m : Nat) (ve : V) (a ln : Addr) (de : PyData) (A : List Bool), vs = [.int L, ve, .ref a, .ref ln, .int m] ∧ L ≤ 8 ∧ 1 ≤ m ∧ Jv.Dv K H ve de ∧ EndsOf de L A ∧
  H a = some (.lst (A.map V.bl)) ∧ Jv.Dv K H (.ref ln) (.list (lawD A)) ∧ ∀ H', Same H H' → Q (.bl true) H'
theorem Door.good {K : PySem.W.Frag} {T : Tx} {H : Hp} {L : Nat} {ve : V} {de : PyData} {dns : List PyData} {E : XK} {g : Nat → List Bool → Prop} {A : List Bool} (hL : L ≤ 8) (he : Jv.Dw K H ve de) (hA : EndsOf de L A) (hw : dns.all (fun d => Jv.wholeD d (.int 1) .non) = true) (k : g L A) : Door K T H (.int L) ve dns E g :=
  ⟨.int L, de, .int _, he, .inr ⟨L, rfl, hL, .inr ⟨A, hA, .inr ⟨hw, k⟩⟩⟩⟩
theorem whole_pos {m : Nat} (h : 1 ≤ m) : Jv.wholeD (.int m) (.int 1) .non = true := by simp [Jv.wholeD, Jv.loOk, Jv.hiOk]; omega
theorem spA_len {M m : Nat} {A : List Bool} : (spA M A m).length = A.length := by
  cases A with
  | nil => rfl
  | cons b bs => exact spl_len
/-- the line's entry, or 0 beyond its end -/
theorem line_at {L m : Nat} {A : List Bool} (hL : L ≤ 8) (h : A.length = L + 1) (hm : 1 ≤ m) : m ≤ rN 399 (gT 399 A) 1 ↔ 1 ≤ gT 399 A m := by
  cases A with
  | nil => simp at h
  | cons b bs =>
    rw [List.length_cons] at h
    have e : bs.length = L := by omega
    exact (gT_pos (by rw [e]; exact tc_far hL) hm).symm
theorem line_len {L : Nat} {A : List Bool} (hL : L ≤ 8) (h : A.length = L + 1) : rN 399 (gT 399 A) 1 ≤ 55 := by
  have h1 := MM_le hL
  by_cases z : rN 399 (gT 399 A) 1 ≤ 55
  · exact z
  · have h2 := (line_at hL h (m := 56) (by decide)).mp (by omega)
    have h3 := gA_far hL h (m := 56) (by omega)
    omega
section
variable {P : Program} {w : World} {K : PySem.W.Frag} {mg : Str → Option Value} {base : Heap}
theorem ok_Lright_number (T : Tx) (O : Ok K mg T) : FnOk P w K mg base CX0 8 T.f_Lright_number T.d_Lright_number ["_law_ladder", "_law_limits", "_law_allowed_here", "_law_lines_here", "_law_many"] (sp_Lright_number K) := by
  refine O.F_Lright_number.ok sc_Lright_number (fun vs H Q E h => by obtain ⟨_, _, _, _, _, _, _, rfl, _⟩ := h; rfl) (fun cdv A0 outer s H vs Q E hr h => ?_)
  obtain ⟨L, m, ve, a, ln0, de, A, rfl, hL, m1, he, hA, ha, dl, q⟩ := h
  refine ⟨_, (pss_cons (ps_set (i := 5) sc_Lright_number.nd rfl (Or.inl rfl) (pe_ix (r := rIxL K) ix_list (pv 3) pe_int (fun _ _ => rfl)))
  (pss_cons (ps_set (i := 6) sc_Lright_number.nd rfl (Or.inl rfl) (pe_ifExp (pt_cmpR op_le (pv 4) (pe_callB (r := Jv.rLenK K) Jv.cr_len (by rfl) O.z_len (by decide +kernel) (pa_cons (pv 5) pa_nil)) (nomark _)) (pe_ix (r := rIxL K) ix_list (pv 5) (pe_op op_sub (pv 4) pe_int) (fun _ _ => rfl)) pe_int))
  (pss_cons (ps_set (i := 7) sc_Lright_number.nd rfl (Or.inl rfl) (pe_callN (E := E0) (ok_most_both T O) (hr.mono (by decide)) (by rfl) O.m_most_both O.F_most_both.kp O.kb2_ends_most_both passL (pa_cons (pv 0) (pa_cons (pv 4) pa_nil)) (pk_cons (pv 1) pk_nil)))
  (pss_cons (ps_if (PW.pt (pw_or (pt_not (pt_val (pe_call (ok_Lis_number T O) (hr.mono (by decide)) (by rfl) O.m_Lis_number O.F_Lis_number.kp O.b_Lis_number .nil pass0 (pa_cons (pv 7) pa_nil)))) (pw_or1 (pt_cmpR op_ne (pv 7) (pv 6) (nomark _))))) (pss_one (ps_ret pe_bl)) pss_nil)
  (pss_cons (ps_set (i := 8) sc_Lright_number.nd rfl (Or.inl rfl) (pe_callN (E := E0) (ok_both_split T O) (hr.mono (by decide)) (by rfl) O.m_both_split O.F_both_split.kp O.kb2_ends_both_split passL (pa_cons (pv 0) (pa_cons (pv 4) pa_nil)) (pk_cons (pv 1) pk_nil)))
  (pss_one (ps_ret (pe_and (pe_call (ok_Lnumbers T O) (hr.mono (by decide)) (by rfl) O.m_Lnumbers O.F_Lnumbers.kp O.b_Lnumbers .nil pass0 (pa_cons (pv 8) (pa_cons (pe_op op_add (pv 0) pe_int) pa_nil))) (pe_and (pe_cmpR (r := rEqD K) (op_eqD hr.units) (pe_callTy (r := Jv.rListOf K) call_list_of (by rfl) O.z_list (by decide +kernel) (pa_cons (pv 8) pa_nil)) (pe_call (ok_Lparts T O) (hr.mono (by decide)) (by rfl) O.m_Lparts O.F_Lparts.kp O.b_Lparts .nil pass0 (pa_cons (pv 2) (pa_cons (pv 3) (pa_cons (pv 4) pa_nil)))) (nomark _)) (pe_one (pe_cmpR op_eq (pe_callB (r := Jv.rSumA K) (Jv.cr_sumA rfl) (by rfl) O.z_sum (by decide +kernel) (pa_cons (pv 8) pa_nil)) (pv 6) (nomark _)))))))))))), ?_⟩
  have lA := hA.len
  have at_ := line_at hL lA m1
  have len := line_len hL lA
  have lawH : ∃ c vs, H ln0 = some (.lst (.ref c :: vs)) ∧ H c = some (.lst ((tabl (rN 399 (gT 399 A) 1) (gT 399 A)).map V.int)) := by
    cases A with
    | nil => exact absurd rfl hA.ne
    | cons b bs =>
      obtain ⟨ln, c, vs, e, h1, h2, _⟩ := lawD_hd dl
      cases e
      exact ⟨c, vs, h1, h2⟩
  obtain ⟨c, vs, hln, hc⟩ := lawH
  walk_at "r"
  refine Jv.r_ixL (Jv.sqL_at hln) (Jv.at_i (by decide) (by rfl)) ?_
  walk_at "r"
  rw [List.length_map, tabl_len]
  refine Jv.r_ifx (.int (gT 399 A m : Nat)) (fun z Q' k' => ?_) (fun z Q' k' => ?_) ?_
  · have z := of_decide_eq_true z
    walk_at "r"
    refine Jv.r_ixL (Jv.sqL_at hc) (Jv.at_i (by omega) (by rw [show ((m : Int) - 1).toNat = m - 1 by omega, List.getElem?_map, tabl_at (by omega), show m - 1 + 1 = m by omega]; rfl)) ?_
    exact k'
  · have z := of_decide_eq_false z
    have g0 : gT 399 A m = 0 := by
      have : ¬ 1 ≤ gT 399 A m := fun h => z (by have := at_.mpr h; omega)
      omega
    rw [g0] at k'
    walk_at "r"
    exact k'
  walk_at "r"
  refine ⟨rfl, rfl, .int L, .int m, ve, .int m, rfl, .int _, .good hL (.dv he) hA (by simp [whole_pos m1]) fun q' e q1 H1 s1 => ?_⟩
  cases e
  walk_at "r"
  refine ⟨_, rfl, ?_⟩
  walk_at "r"
  rw [decide_eq_true (rfl : V.int (gT 399 A m : Nat) = V.int (gT 399 A m : Nat))]
  walk_at "r"
  refine ⟨rfl, rfl, .int L, .int m, ve, .int m, rfl, .int _, .good hL (.dv (he.same s1)) hA (by simp [whole_pos m1]) fun q' e q1 t H2 s2 ht => ?_⟩
  cases e
  walk_at "r"
  refine ⟨t, spA 399 A m, by rw [spA_len, lA]; rfl, ht, by rw [spA_len]; omega, fun H3 s3 => ?_⟩
  walk_at "r"
  refine Jv.r_listOf (.inr (Jv.Same.sqT s3 ht)) fun l4 hl4 => ?_
  have s4 := Jv.same_new (u := .lst ((spA 399 A m).map V.int)) hl4
  have e4 : upd H3 l4 (.lst ((spA 399 A m).map V.int)) l4 = some (.lst ((spA 399 A m).map V.int)) := upd_same
  generalize upd H3 l4 (.lst ((spA 399 A m).map V.int)) = H4 at s4 e4 ⊢
  have s14 := ((s1.trans s2).trans s3).trans s4
  walk_at "r"
  refine ⟨a, ln0, m, A, rfl, s14 _ _ ha, dl.same s14, hA.ne, by omega, m1, fun D H5 s5 e5 => ?_⟩
  refine Jv.eq_self (d := .list ((spA 399 A m).map .int)) (.lst (s5 _ _ e4) (Jv.dv_ints _)) (.lst e5 (Jv.dv_ints _)) (shaped_ints _).1 ?_
  walk_at "r"
  refine ⟨.ref t, _, rfl, ⟨t, rfl, .inr (Jv.Same.sqT ((s3.trans s4).trans s5) ht)⟩, ?_⟩
  rw [spA_sum hA.ne]
  walk_at "r"
  have := q H5 (s14.trans s5)
  rw [decide_eq_true (rfl : V.int (gT 399 A m : Nat) = V.int (gT 399 A m : Nat))]
  exact this
end
end K39

namespace Jv
open PySem PySem.Spec PyProof.Rows L2
/-! ### a def whose code object is known -/
theorem fun_okC {P : Program} {w : World} {K : PySem.W.Frag} {mg : Str → Option Value} {base : Heap} {x qual : Str} {st : Stmt} {f : Addr} {fd : FuncData} {N ps : List Str} {k : Nat} {sp : Sp} {oc kV doc pm cdv ct : Value} {od an : Option Addr} {osl : Array (Option Value)}
    (ed : fd = PySem.W.fnOf x qual (defArgs st) (defBody st) (defScope st) .none kV doc pm an cdv ct) (lk : K.lookup f = some ⟨oc, od, .func fd, osl⟩) (hcd : PySem.W.codeIn K cdv qual = true) (S : FnScope N ps (defScope st)) (len : ∀ vs H Q E, sp vs H Q E → vs.length = ps.length)
    (hbody : ∀ (A : Around) (outer : List Env) (s : Shared) (H : Hp) (vs : List V) (Q : VK) (E : XK), Room k (A.deeper (envOfC qual (defScope st) s.heap.objs.size f cdv)) → sp vs H Q E →
      ∃ t, PSs (cxOf CX0 P w K mg base N qual (defScope st) f cdv A outer s H E).nox (defBody st) t ∧ t { nx := fun _ H' => Q .non H', rt := Q } (start N vs) H) : FnOk P w K mg base CX0 (k + 1) f fd ps sp := by
  subst ed
  refine fn_of lk hcd S len fun A outer s H vs Q E hr hsp => ?_
  obtain ⟨t, h, q⟩ := hbody A outer s H vs Q E hr hsp
  exact ⟨t, h.nox, q⟩
end Jv
namespace K39
open PySem PySem.Spec PyProof.Rows L2
/-! ### the refusals -/
abbrev TLof (Pt : Addr) : List (Addr × Str) := [(Pt, ("_law_right_refusals" ++ ".<locals>.") ++ "<lambda>")]
def sp_Lright_refusals (K : PySem.W.Frag) (Pt : Addr) : Sp := fun vs H Q _ => ∃ (h hl : Addr) (L : Nat) (ve : V) (de : PyData) (A : List Bool), vs = [.ref h, .int L, ve] ∧ Jv.Hand H h hl ∧ L ≤ 8 ∧ Jv.Dv K (Jv.hide [h] H) ve de ∧ EndsOf de L A ∧ H Pt = some (.tbl #[]) ∧ Pt ≠ h ∧ ∀ H', Q (.bl true) H'
structure LawC (K : PySem.W.Frag) (T : Tx) (c : Addr) : Prop where
  ex : ∃ (oc : Value) (od : Option Addr) (kV doc pm : Value) (an : Option Addr) (ct : Value) (osl : Array (Option Value)),
    T.d_Lright_refusals = PySem.W.fnOf "_law_right_refusals" "_law_right_refusals" (defArgs s_Lright_refusals) (defBody s_Lright_refusals) (defScope s_Lright_refusals) .none kV doc pm an (.ref c) ct ∧ K.lookup T.f_Lright_refusals = some ⟨oc, od, .func T.d_Lright_refusals, osl⟩ ∧ PySem.W.codeIn K (.ref c) "_law_right_refusals" = true
/-- what stands where lambdas are made -/
structure Od (K : PySem.W.Frag) (H : Hp) (L : Nat) (vo oe ok ve : V) (oD eD kD de : PyData) : Prop where
  vo : Jv.Dv K H vo oD
  bo : Jv.wholeD oD (.int 0) (.int 8) = false
  oe : Jv.Dw K H oe eD
  be : BadE eD L
  ok : Jv.Dv K H ok kD
  bk : Jv.wholeD kD (.int 1) .non = false
  ve : Jv.Dv K H ve de
theorem Od.ext {K : PySem.W.Frag} {H H' : Hp} {L : Nat} {vo oe ok ve : V} {oD eD kD de : PyData} (o : Od K H L vo oe ok ve oD eD kD de) (e : LamX.ExtN H H') : Od K H' L vo oe ok ve oD eD kD de :=
  ⟨o.vo.ext e, o.bo, o.oe.ext e, o.be, o.ok.ext e, o.bk, o.ve.ext e⟩
section
variable {P : Program} {w : World} {K : PySem.W.Frag} {mg : Str → Option Value} {base : Heap}
theorem ok_Lright_refusals (T : Tx) (O : Ok K mg T) {c Pt : Addr} (C : LawC K T c) (TB : LamX.TabB base mg c Pt) : FnOk P w K mg base CX0 13 T.f_Lright_refusals T.d_Lright_refusals ["_law_hand_here", "_law_ladder", "_law_limits"] (sp_Lright_refusals K Pt) := by
  obtain ⟨oc, od, kV, doc, pm, an, ct, osl, ed, lk, hcd⟩ := C.ex
  obtain ⟨_, _, _, _, _, _, cdvR, _, _, edR, lkR, hcR⟩ := O.F_Lrefused.ex
  have bR := O.b_Lrefused
  rw [edR] at lkR bR
  refine Jv.fun_okC ed lk hcd sc_Lright_refusals (fun vs H Q E h => by obtain ⟨_, _, _, _, _, _, rfl, _⟩ := h; rfl) (fun A0 outer s H vs Q E hr h => ?_)
  obtain ⟨h, hl, L, ve, de, A, rfl, hh, hL, he, hA, hP, nPh, fin⟩ := h
  refine ⟨_, (pss_cons (ps_asg (pe_tup (pa_cons (pe_call (ok_Lodd_ladder T O) (hr.mono (by decide)) (by rfl) O.m_Lodd_ladder O.F_Lodd_ladder.kp O.b_Lodd_ladder .nil pass0 (pa_cons (pv 0) (pa_cons pe_int pa_nil))) (pa_cons (pe_call (ok_Lodd_ends T O) (hr.mono (by decide)) (by rfl) O.m_Lodd_ends O.F_Lodd_ends.kp O.b_Lodd_ends .nil pass0 (pa_cons (pv 0) (pa_cons (pv 1) pa_nil))) pa_nil))) (pg_tup rfl (pgs_cons (pg_name (i := 3) sc_Lright_refusals.nd rfl (Or.inr rfl)) (pgs_cons (pg_name (i := 4) sc_Lright_refusals.nd rfl (Or.inr rfl)) pgs_nil))))
  (pss_cons (ps_set (i := 5) sc_Lright_refusals.nd rfl (Or.inr rfl) (pe_ix (r := rIxL K) ix_list (pe_lst (pa_cons pe_int (pa_cons (pe_un un_neg pe_int) (pa_cons pe_non (pa_cons pe_bl (pa_cons pe_str (pa_cons (pe_tup (pa_cons pe_int pa_nil)) (pa_cons pe_bl pa_nil)))))))) (pe_call (ok_Ldraw T O) (hr.mono (by decide)) (by rfl) O.m_Ldraw O.F_Ldraw.kp O.b_Ldraw .nil pass0 (pa_cons (pv 0) (pa_cons pe_int pa_nil))) (fun _ _ => rfl)))
  (pss_cons (ps_for PassesOwn.never rfl (pi_range1 (by rfl) O.z_range (pa_cons pe_int pa_nil)) (pg_name (i := 6) sc_Lright_refusals.nd rfl (Or.inr rfl)) (pss_cons (ps_if (pt_cmpR op_ne (LamX.pe_lamcall (T := TLof Pt) (TT := TTref T) (k := 10) (by rfl) O.m_Lrefused O.F_Lrefused.kp lkR hcR bR sc_Lrefused rfl (Or.inl rfl) (refused_gives T O) TB rfl (List.mem_singleton.mpr rfl) (fun p hp _ => by cases (List.mem_singleton.mp hp); rfl) (hr.mono (by decide)) (LamX.lamS_by (sc := defScope s_Lright_refusals) (by decide +kernel)) rfl (fun _ _ _ _ _ => rfl) (fun A outer s H E f c1 hr => (pe_callS (ok_Lat_door T O) (hr.mono (by decide)) (by rfl) O.m_Lat_door O.F_Lat_door.kp O.b_Lat_door (fun σ => passAt (takes_of rfl rfl rfl rfl) σ) (pa_cons (pv 6) (pa_cons (pv 3) (pa_cons (pv 5) (pa_cons (pv 4) pa_nil))))))) pe_str (nomark _)) (pss_one (ps_ret pe_bl)) pss_nil)
  (pss_cons (ps_if (pt_cmpR op_ne (LamX.pe_lamcall (T := TLof Pt) (TT := TTref T) (k := 10) (by rfl) O.m_Lrefused O.F_Lrefused.kp lkR hcR bR sc_Lrefused rfl (Or.inl rfl) (refused_gives T O) TB rfl (List.mem_singleton.mpr rfl) (fun p hp _ => by cases (List.mem_singleton.mp hp); rfl) (hr.mono (by decide)) (LamX.lamS_by (sc := defScope s_Lright_refusals) (by decide +kernel)) rfl (fun _ _ _ _ _ => rfl) (fun A outer s H E f c1 hr => (pe_callS (ok_Lat_door T O) (hr.mono (by decide)) (by rfl) O.m_Lat_door O.F_Lat_door.kp O.b_Lat_door (fun σ => passAt (takes_of rfl rfl rfl rfl) σ) (pa_cons (pv 6) (pa_cons (pv 1) (pa_cons (pv 5) (pa_cons (pv 4) pa_nil))))))) pe_str (nomark _)) (pss_one (ps_ret pe_bl)) pss_nil)
  (pss_one (ps_if (PW.pt (pw_and (pt_cmpR op_lt (pv 6) pe_int (nomark _)) (pw_and1 (pt_cmpR op_ne (LamX.pe_lamcall (T := TLof Pt) (TT := TTref T) (k := 10) (by rfl) O.m_Lrefused O.F_Lrefused.kp lkR hcR bR sc_Lrefused rfl (Or.inl rfl) (refused_gives T O) TB rfl (List.mem_singleton.mpr rfl) (fun p hp _ => by cases (List.mem_singleton.mp hp); rfl) (hr.mono (by decide)) (LamX.lamS_by (sc := defScope s_Lright_refusals) (by decide +kernel)) rfl (fun _ _ _ _ _ => rfl) (fun A outer s H E f c1 hr => (pe_callS (ok_Lat_door T O) (hr.mono (by decide)) (by rfl) O.m_Lat_door O.F_Lat_door.kp O.b_Lat_door (fun σ => passAt (takes_of rfl rfl rfl rfl) σ) (pa_cons (pv 6) (pa_cons (pv 1) (pa_cons (pv 5) (pa_cons (pv 2) pa_nil))))))) pe_str (nomark _))))) (pss_one (ps_ret pe_bl)) pss_nil)))))
  (pss_cons (ps_set (i := 7) sc_Lright_refusals.nd rfl (Or.inr rfl) (pe_call (ok_Lodd_kinds T O) (hr.mono (by decide)) (by rfl) O.m_Lodd_kinds O.F_Lodd_kinds.kp O.b_Lodd_kinds .nil pass0 (pa_cons (pv 0) (pa_cons pe_int pa_nil))))
  (pss_cons (ps_if (pt_cmpR op_ne (LamX.pe_lamcall (T := TLof Pt) (TT := TTref T) (k := 10) (by rfl) O.m_Lrefused O.F_Lrefused.kp lkR hcR bR sc_Lrefused rfl (Or.inl rfl) (refused_gives T O) TB rfl (List.mem_singleton.mpr rfl) (fun p hp _ => by cases (List.mem_singleton.mp hp); rfl) (hr.mono (by decide)) (LamX.lamS_by (sc := defScope s_Lright_refusals) (by decide +kernel)) rfl (fun _ _ _ _ _ => rfl) (fun A outer s H E f c1 hr => (pe_callS (ok_least_both T O) (hr.mono (by decide)) (by rfl) O.m_least_both O.F_least_both.kp O.b_least_both (fun σ => passAt (takes_of rfl rfl rfl rfl) σ) (pa_cons (pv 7) (pa_cons pe_int pa_nil))))) pe_str (nomark _)) (pss_one (ps_ret pe_bl)) pss_nil)
  (pss_one (ps_ret (pe_cmpR op_eq (LamX.pe_lamcall (T := TLof Pt) (TT := TTref T) (k := 10) (by rfl) O.m_Lrefused O.F_Lrefused.kp lkR hcR bR sc_Lrefused rfl (Or.inl rfl) (refused_gives T O) TB rfl (List.mem_singleton.mpr rfl) (fun p hp _ => by cases (List.mem_singleton.mp hp); rfl) (hr.mono (by decide)) (LamX.lamS_by (sc := defScope s_Lright_refusals) (by decide +kernel)) rfl (fun _ _ _ _ _ => rfl) (fun A outer s H E f c1 hr => (pe_callS (ok_least_both T O) (hr.mono (by decide)) (by rfl) O.m_least_both O.F_least_both.kp O.b_least_both (fun σ => passAt (takes_of rfl rfl rfl rfl) σ) (pa_cons pe_int (pa_cons (pv 7) pa_nil))))) pe_str (nomark _))))))))), ?_⟩
  walk_at "r"
  refine ⟨h, hl, rfl, hh, fun vo oD H4 k4 h4 hvo bo => ?_⟩
  walk_at "r"
  refine ⟨h, hl, L, rfl, h4, fun oe eD H5 k5 h5 hoe be => ?_⟩
  replace hvo := hvo.same k5.hide
  replace he := (he.same k4.hide).same k5.hide
  walk_at "r"
  intro p hp
  refine Jv.r_gtup (Jv.sqT_at upd_same) rfl ?_
  generalize e1 : L2.upd _ _ _ = G1
  obtain ⟨s1, f1⟩ := new_of hp e1
  clear e1
  have h7 := h5.same s1
  replace hvo := hvo.same (Jv.hide_same s1)
  replace hoe := hoe.same (Jv.hide_same s1)
  replace he := he.same (Jv.hide_same s1)
  have kp7 := (k4.trans k5).trans (Jv.Kp.same s1)
  clear s1 f1 hp k4 k5 h4 h5
  walk_at "r"
  intro t1 ht1
  generalize e1 : L2.upd _ _ _ = G2
  obtain ⟨s1, f1⟩ := new_of ht1 e1
  clear e1
  obtain ⟨n1, _⟩ := h7.ne2 ht1
  walk_at "r"
  intro t2 ht2
  generalize e2 : L2.upd _ _ _ = G3
  obtain ⟨s2, f2⟩ := new_of ht2 e2
  clear e2
  obtain ⟨n2, _⟩ := (h7.same s1).ne2 ht2
  replace f1 := s2 _ _ f1
  have s12 := s1.trans s2
  walk_at "r"
  refine dr (m := 7) (h7.same s12) (by decide) (by decide) fun z H8 z0 z1 k8 h8 => ?_
  replace f1 := k8 _ _ n1 f1
  replace f2 := k8 _ _ n2 f2
  have k78 := (Jv.Kp.same (p := h) s12).trans k8
  walk_at "r"
  refine pickV f2 z0 z1 fun vk hv => ?_
  obtain ⟨kD, hvk, bvk⟩ : ∃ kD, Jv.Dv K H8 vk kD ∧ Jv.wholeD kD (.int 1) .non = false := by
    simp only [List.mem_cons, List.not_mem_nil, or_false] at hv
    rcases hv with rfl | rfl | rfl | rfl | rfl | rfl | rfl
    · exact ⟨_, .int _, rfl⟩
    · exact ⟨_, .int _, rfl⟩
    · exact ⟨_, .non, rfl⟩
    · exact ⟨_, .bl _, rfl⟩
    · exact ⟨_, .str _, rfl⟩
    · exact ⟨_, .tup (Jv.sqT_at f1) (.cons (.int _) .nil), rfl⟩
    · exact ⟨_, .bl _, rfl⟩
  have tb8 : LamX.Tabs (TLof Pt) H8 := fun p hp => by
    cases List.mem_singleton.mp hp
    exact LamX.TabS.nil ((kp7.trans k78) _ _ nPh hP)
  have od8 : Od K H8 L vo oe vk ve oD eD kD de :=
    ⟨(hvo.same k78.hide).same Jv.hide_le, bo, (hoe.same k78.hide).same Jv.hide_le, be, hvk, bvk, (he.same k78.hide).same Jv.hide_le⟩
  clear f1 f2 hv z0 z1 ht1 ht2 s1 s2 s12 h7 n1 n2 hvk
  walk_at "r"
  refine ⟨5, rfl, by decide, by decide, ?_⟩
  refine for_range (lo := 0) (n := ((5 : Int)).toNat) (fun i σ H' => ∃ y6 y7, σ = [some (.ref h), some (.int L), some ve, some vo, some oe, some vk, y6, y7] ∧ LamX.ExtN H8 H' ∧ LamX.Tabs (TLof Pt) H' ∧ Od K H' L vo oe vk ve oD eD kD de)
    ⟨_, _, rfl, LamX.ExtN.refl _, tb8, od8⟩ ?_ ?_
  · rintro i σ H0' hi ⟨y6, y7, rfl, x0, tb0, od0⟩
    have i4 : i ≤ 4 := by have : ((5 : Int)).toNat = 5 := rfl; omega
    walk_at "r"
    refine ⟨tb0, fun H1a e1a tb1a => ?_⟩
    have od1a := od0.ext e1a
    intro R hR
    walk_at "r"
    refine ⟨_, vo, vk, oe, kD, oD, eD, rfl, by omega, by omega, od1a.ok, od1a.vo, od1a.oe, .inl ⟨od1a.bo, fun H1b s1b => ?_⟩⟩
    refine ⟨rfl, .inl ⟨rfl, ?_⟩⟩
    walk_at "r"
    have od1b := od1a.ext (LamX.ExtN.of s1b)
    have tb1b := LamX.Tabs.ext tb1a s1b
    have x1b := x0.trans (e1a.trans (LamX.ExtN.of s1b))
    refine ⟨tb1b, fun H2a e2a tb2a => ?_⟩
    have od2a := od1b.ext e2a
    intro R hR
    walk_at "r"
    refine ⟨_, .int L, vk, oe, kD, .int L, eD, rfl, by omega, by omega, od2a.ok, .int _, od2a.oe, .inr ⟨L, rfl, hL, .inl ⟨od2a.be, fun H2b s2b => ?_⟩⟩⟩
    refine ⟨rfl, .inr (.inl ⟨rfl, ?_⟩)⟩
    walk_at "r"
    have od2b := od2a.ext (LamX.ExtN.of s2b)
    have tb2b := LamX.Tabs.ext tb2a s2b
    have x2b := x1b.trans (e2a.trans (LamX.ExtN.of s2b))
    refine Jv.r_dec (fun lt => ?_) (fun _ => ?_)
    · walk_at "r"
      refine ⟨tb2b, fun H3a e3a tb3a => ?_⟩
      have od3a := od2b.ext e3a
      intro R hR
      walk_at "r"
      refine ⟨_, .int L, vk, ve, kD, .int L, de, rfl, by omega, by omega, od3a.ok, .int _, .dv od3a.ve, .inr ⟨L, rfl, hL, .inr ⟨A, hA, by omega, od3a.bk, fun H3b s3b => ?_⟩⟩⟩
      refine ⟨rfl, .inr (.inr ⟨rfl, ?_⟩)⟩
      walk_at "r"
      have od3b := od3a.ext (LamX.ExtN.of s3b)
      have tb3b := LamX.Tabs.ext tb3a s3b
      have x3b := x2b.trans (e3a.trans (LamX.ExtN.of s3b))
      exact ⟨_, _, rfl, x3b, tb3b, od3b⟩
    · exact ⟨_, _, rfl, x2b, tb2b, od2b⟩
  · rintro σ H0' ⟨y6, y7, rfl, x0, tb0, od0⟩
    have h9 := h8.ext x0
    walk_at "r"
    refine ⟨h, hl, rfl, h9, fun vw wD H10 k10 h10 hw bw => ?_⟩
    have tb10 := Jv.tabs_kp tb0 h9 k10
    replace hw := hw.same Jv.hide_le
    walk_at "r"
    refine ⟨tb10, fun H1a e1a tb1a => ?_⟩
    intro R hR
    walk_at "r"
    refine ⟨vw, .int 8, wD, .int 8, rfl, hw.ext e1a, .int 8, .inl ⟨by rw [bw]; rfl, fun H1b s1b => ?_⟩⟩
    refine ⟨rfl, .inr (.inr ⟨rfl, ?_⟩)⟩
    walk_at "r"
    have tb1b := LamX.Tabs.ext tb1a s1b
    refine ⟨tb1b, fun H2a e2a tb2a => ?_⟩
    intro R hR
    walk_at "r"
    refine ⟨.int 1, vw, .int 1, wD, rfl, .int 1, ((hw.ext e1a).same s1b).ext e2a, .inl ⟨by rw [bw]; rfl, fun H2b s2b => ?_⟩⟩
    refine ⟨rfl, .inr (.inr ⟨rfl, ?_⟩)⟩
    walk_at "r"
    exact fin _
end
end K39

namespace Jv
open PySem PySem.Spec PyProof.Rows L2
section
variable {K : PySem.W.Frag} {H : Hp} {p l : Addr}
theorem pick_es : ∀ {ys : List V} {R : Nat → PyData → Prop}, (∀ i y, ys[i]? = some y → ∃ e, Dv K H y e ∧ R i e) → ∃ es, DvAll K H ys es ∧ ∀ (i : Nat) e, es[i]? = some e → R i e
  | [], _, _ => ⟨[], .nil, fun i e h => by cases h⟩
  | y :: ys, R, h => by
    obtain ⟨e, h1, h2⟩ := h 0 y rfl
    obtain ⟨es, h3, h4⟩ := pick_es (ys := ys) (R := fun i e => R (i + 1) e) (fun i y hy => h (i + 1) y hy)
    refine ⟨e :: es, .cons h1 h3, fun i x hx => ?_⟩
    cases i with
    | zero => cases hx; exact h2
    | succ i => exact h4 i x hx
theorem hideKp {Hx : Hp} {D : Addr} (k : Kp p H Hx) (n : H D = none) : Same (hide [p] H) (hide [D, p] Hx) := fun b o e => by
  obtain ⟨h1, h2⟩ := hide_some e
  have nb : b ≠ p := fun z => h1 (by rw [z]; exact List.mem_singleton.mpr rfl)
  refine hide_at (fun m => ?_) (k b o nb h2)
  rcases List.mem_cons.mp m with z | z
  · rw [z, n] at h2; cases h2
  · exact nb (List.mem_singleton.mp z)
/-- a comprehension whose items draw -/
theorem lcKpW {σ : L2.St} {te : TE} {Q : VK} {j n : Nat} {J : It} {G : Hp → Prop} {Y : Nat → Hp → V → Hp → Prop} {F : Nat → V → Prop} (w : Walk J n G Y) (hG : ∀ H', Kp p H H' → Hand H' p l → G H') (hy : ∀ i H x H', i < n → Y i H x H' → H' = H ∧ F i x)
    (hh : Hand H p l) (few : n ≤ 900) (S : Hp → Nat → V → Prop) (hS : ∀ H H' i v, Same H H' → S H i v → S H' i v)
    (hs : ∀ i v D Hx, i < n → F i v → Kp p H Hx → Hand Hx p l → H D = none → D ≠ p → (∃ ys, Hx D = some (.lst ys)) → ∀ P : VK, (∀ y H2, Kp p Hx H2 → Hand H2 p l → S (hide [D, p] H2) i y → P y H2) → te ((σ.set j none).set j (some v)) Hx P)
    (hd : ∀ D ys H1, Kp p H H1 → Hand H1 p l → H D = none → D ≠ p → H1 D = some (.lst ys) → ys.length = n → (∀ i y, ys[i]? = some y → S (hide [D, p] H1) i y) → Q (.ref D) H1) : ∀ D, H D = none → ∃ W : Nat → Nat → Hp → Prop, (∃ m, W 0 m (upd H D (.lst []))) ∧ ∀ i m H, W i m H →
      (J.stop i H ∧ Q (.ref D) H) ∨ (J.go i H ∧ ∃ Nx : Hp → Prop, (∀ H', Nx H' → ∃ m', m' < m ∧ W (i + 1) m' H') ∧ ∀ x H', J.yld i H x H' → gName j x (wipe σ [j]) H' fun σ2 H2 => wipe σ2 [j] = wipe σ [j] ∧ tYes σ2 H2 fun b H3 =>
        if b = true then te σ2 H3 fun y H4 => ∃ acc, H4 D = some (.lst acc) ∧ acc.length < sizeLine ∧ Nx (upd H4 D (.lst (acc ++ [y]))) else Nx H3) := by
  intro D hD
  obtain ⟨nD, nl⟩ := hh.ne2 hD
  refine lc_it w (fun i H1 => Kp p H H1 ∧ Hand H1 p l ∧ ∃ ys, H1 D = some (.lst ys) ∧ ys.length = i ∧ ∀ k y, ys[k]? = some y → S (hide [D, p] H1) k y) ⟨Kp.new hD, hh.same (same_new hD), [], upd_same, rfl, fun k y h => by cases h⟩ (fun i H1 _ h => hG H1 h.1 h.2.1) ?_ ?_
  · rintro i x H1 H2 hi ⟨k1, h1, ys, e1, ln, al⟩ hx
    obtain ⟨rfl, hf⟩ := hy i _ _ _ hi hx
    refine ⟨wipe1, r_yes (r_ift ?_)⟩
    refine hs i x D H2 hi hf k1 h1 hD nD ⟨_, e1⟩ _ fun y H3 k3 h3 sy => ⟨ys, k3 _ _ nD e1, small_lt (by omega), fun b o nb hb => ?_, h3.upd nD nl, ys ++ [y], upd_same, by rw [List.length_append, ln]; rfl, fun k z hz => ?_⟩
    · rw [upd_ne (ne_of_none hb hD)]
      exact k3 _ _ nb (k1 _ _ nb hb)
    · rw [hide_upd]
      by_cases hk : k < ys.length
      · rw [List.getElem?_append_left hk] at hz
        exact hS _ _ _ _ (Kp.hideM k3 (by simp)) (al k z hz)
      · rw [List.getElem?_append_right (by omega)] at hz
        have hk0 : k - ys.length = 0 := by
          cases hq : k - ys.length with
          | zero => rfl
          | succ m => rw [hq] at hz; simp at hz
        rw [hk0] at hz
        cases hz
        have : k = i := by omega
        rw [this]; exact sy
  · rintro H1 ⟨k1, h1, ys, e1, ln, al⟩
    exact hd D ys H1 k1 h1 hD nD e1 ln al
theorem lcKpS {σ : L2.St} {te : TE} {Q : VK} {i j : Nat} {x : V} {xs : List V} (hv : σ[i]? = some (some x)) (h : Sk K (hide [p] H) x xs) (hh : Hand H p l) (few : xs.length ≤ 900) (S : Hp → Nat → V → Prop) (hS : ∀ H H' i v, Same H H' → S H i v → S H' i v)
    (hs : ∀ i v D Hx, i < xs.length → xs[i]? = some v → Kp p H Hx → Hand Hx p l → H D = none → D ≠ p → (∃ ys, Hx D = some (.lst ys)) → ∀ P : VK, (∀ y H2, Kp p Hx H2 → Hand H2 p l → S (hide [D, p] H2) i y → P y H2) → te ((σ.set j none).set j (some v)) Hx P)
    (hd : ∀ D ys H1, Kp p H H1 → Hand H1 p l → H D = none → D ≠ p → H1 D = some (.lst ys) → ys.length = xs.length → (∀ i y, ys[i]? = some y → S (hide [D, p] H1) i y) → Q (.ref D) H1) : tLc (fun σ H R => iList K (tVar i) σ H R ∨ iTup K (tVar i) σ H R) (gName j) tYes te [j] σ H Q := by
  obtain ⟨a, rfl, h | h⟩ := h
  · exact .inl ⟨_, hv, a, rfl, ⟨xs, hide_le.seq h⟩, lcKpW (walk_list (K := K) (a := a) (xs := xs)) (fun H' k _ => hide_le.seq ((Kp.hide k).seq h)) yat hh few S hS hs hd⟩
  · exact .inr ⟨_, hv, a, rfl, ⟨xs, Jv.Same.sqT hide_le h⟩, lcKpW (walk_tup (K := K) (a := a) (xs := xs)) (fun H' k _ => Jv.Same.sqT hide_le (Jv.Same.sqT (Kp.hide k) h)) yat hh few S hS hs hd⟩
end
end Jv

namespace Jv
open PySem PySem.Spec PyProof.Rows L2
section
variable {K : PySem.W.Frag} {H : Hp} {p l : Addr}
/-! ### numbers, their lists and tuples are no hand -/
theorem sqT_hideH {t : Addr} {xs : List V} (hh : Hand H p l) (h : SqT K H t xs) : SqT K (hide [p] H) t xs := by
  obtain ⟨_, _, _, _, hA⟩ := hh
  rcases h with (h | ⟨o, h⟩) | h
  · exact .inl (.inl (hide_one (fun e => by rw [e, hA.hp] at h; cases h) h))
  · exact .inl (.inr ⟨o, hide_one (fun e => by rw [e, hA.hp] at h; cases h) h⟩)
  · exact .inr h
theorem ints_ne {b : Addr} {ns : List Int} (hh : Hand H p l) (h : H b = some (.lst (ns.map V.int))) : b ≠ p := fun e => by
  obtain ⟨_, _, _, _, hA⟩ := hh
  rw [e, hA.hp] at h
  cases ns with
  | nil => cases h
  | cons a r => cases h
theorem prs_hide (hh : Hand H p l) : ∀ {cs : List (Int × Int)} {ys : List V}, DvAll K H ys (cs.map pairD) → DvAll K (hide [p] H) ys (cs.map pairD)
  | [], _, .nil => .nil
  | c :: cs, _, .cons a b => by
    refine .cons ?_ (prs_hide hh b)
    cases a with
    | tup h q =>
      cases q with
      | cons q1 q =>
        cases q with
        | cons q2 q =>
          cases q; cases q1; cases q2
          exact .tup (sqT_hideH hh h) (.cons (.int _) (.cons (.int _) .nil))
theorem prsT_hide {v : V} {cs : List (Int × Int)} (hh : Hand H p l) (h : Dv K H v (.tuple (cs.map pairD))) : Dv K (hide [p] H) v (.tuple (cs.map pairD)) := by
  cases h with
  | tup h al => exact .tup (sqT_hideH hh h) (prs_hide hh al)
theorem r_ifQ {d : Bool} {ta : TE} {σ : L2.St} {Q : VK} {w : V} (v : V) (h1 : d = true → ∀ Q' : VK, Q' v H → ta σ H Q') (h2 : d = false → w = v) (q : Q v H) : if d = true then ta σ H Q else Q w H := by
  cases d
  · rw [if_neg (by simp), h2 rfl]; exact q
  · exact h1 rfl _ q
/-- a slice of a tuple -/
theorem r_slA {Q : VK} {a : Addr} {xs ys : List V} {lo hi : Option Int} (h : SqT K H a xs) (e : cutV xs lo hi = ys) (q : ∀ t H', Same H H' → SqT K H' t ys → Q (.ref t) H') : rSlA K (.ref a) lo hi H Q := by
  refine ⟨a, xs, rfl, h, fun hw => q a H (Same.refl _) ?_, fun _ t ht => q t _ (same_new ht) (Jv.sqT_at (by rw [upd_same, e]))⟩
  rw [← e]
  unfold cutV
  rw [hw.1, hw.2]
  simpa using h
/-- a comprehension that keeps none -/
theorem lcNo {σ : L2.St} {te : TE} {tt : TT} {Q : VK} {i j : Nat} {t : Addr} {xs : List V} (hv : σ[i]? = some (some (.ref t))) (h : SqT K H t xs)
    (ht : ∀ (k : Nat) v H1, xs[k]? = some v → Same H H1 → ∀ R : Bool → Hp → Prop, (∀ H2, Same H1 H2 → R false H2) → tt ((σ.set j none).set j (some v)) H1 R)
    (hd : ∀ D H1, Same H H1 → H D = none → H1 D = some (.lst []) → Q (.ref D) H1) : tLc (iTup K (tVar i)) (gName j) tt te [j] σ H Q := by
  refine ⟨_, hv, t, rfl, ⟨xs, h⟩, fun D hD => ?_⟩
  refine lc_it (walk_tup (K := K) (a := t) (xs := xs)) (fun i H1 => Same H H1 ∧ H1 D = some (.lst [])) ⟨same_new hD, upd_same⟩ (fun i H1 _ h1 => Jv.Same.sqT h1.1 h) ?_ ?_
  · rintro i x H1 H2 hi ⟨s1, e1⟩ ⟨e0, hx⟩
    subst e0
    refine ⟨wipe1, ht i x _ hx s1 _ fun H3 s3 => ?_⟩
    rw [if_neg (by simp)]
    exact ⟨s1.trans s3, s3 _ _ e1⟩
  · rintro H1 ⟨s1, e1⟩
    exact hd D H1 s1 hD e1
/-- items that draw, over a tuple that an expression gives -/
theorem lcKpE {σ : L2.St} {te te0 : TE} {Q : VK} {j : Nat} (S : Hp → Nat → V → Prop) (hS : ∀ H H' i v, Same H H' → S H i v → S H' i v)
    (h : ∀ R : VK, (∀ A zs H1, Hand H1 p l → SqT K (hide [p] H1) A zs → zs.length ≤ 900 →
      (∀ i v D Hx, i < zs.length → zs[i]? = some v → Kp p H1 Hx → Hand Hx p l → H1 D = none → D ≠ p → (∃ ys, Hx D = some (.lst ys)) → ∀ P : VK, (∀ y H2, Kp p Hx H2 → Hand H2 p l → S (hide [D, p] H2) i y → P y H2) → te ((σ.set j none).set j (some v)) Hx P) →
      (∀ D ys H2, Kp p H1 H2 → Hand H2 p l → H1 D = none → D ≠ p → H2 D = some (.lst ys) → ys.length = zs.length → (∀ i y, ys[i]? = some y → S (hide [D, p] H2) i y) → Q (.ref D) H2) → R (.ref A) H1) → te0 σ H R) : tLc (iTup K te0) (gName j) tYes te [j] σ H Q :=
  h _ fun A zs H1 hh hz few hs hd => ⟨A, rfl, ⟨zs, Jv.Same.sqT hide_le hz⟩, lcKpW (walk_tup (K := K) (a := A) (xs := zs)) (fun H' k _ => Jv.Same.sqT hide_le (Jv.Same.sqT (Kp.hide k) hz)) yat hh few S hS hs hd⟩
end
end Jv
namespace K39
open PySem PySem.Spec PyProof.Rows L2
/-! ### what stands while the law goes on -/
theorem iDs_hide {K : PySem.W.Frag} {H : Hp} {p l : Addr} (hh : Jv.Hand H p l) : ∀ {nss : List (List Int)} {ys : List V}, Jv.DvAll K H ys (nss.map iD) → Jv.DvAll K (Jv.hide [p] H) ys (nss.map iD)
  | [], _, .nil => .nil
  | c :: cs, _, .cons a b => by
    refine .cons ?_ (iDs_hide hh b)
    obtain ⟨b, rfl, hb⟩ := iD_at a
    exact iD_of (Jv.hide_one (Jv.ints_ne hh hb) hb)
theorem lines_hide {K : PySem.W.Frag} {H : Hp} {p l : Addr} {v : V} {nss : List (List Int)} (hh : Jv.Hand H p l) (h : Jv.Dv K H v (.list (nss.map iD))) : Jv.Dv K (Jv.hide [p] H) v (.list (nss.map iD)) := by
  cases h with
  | @lst ln ys _ h al =>
    refine .lst (Jv.hide_one (fun e => ?_) h) (iDs_hide hh al)
    obtain ⟨_, _, _, _, hA⟩ := hh
    rw [e, hA.hp] at h
    cases h
    cases nss with
    | nil => cases al
    | cons a r =>
      cases al with
      | cons _ al =>
        cases r with
        | nil => cases al
        | cons b r =>
          cases al with
          | cons q _ => cases q
theorem lawD_eq {A : List Bool} : lawD A = ((gM 399 A).map fun g => tabl (rN 399 g 1) g).map iD := by unfold lawD; rw [List.map_map]; rfl
structure Sd (K : PySem.W.Frag) (h : Addr) (H : Hp) (L : Nat) (ve : V) (de : PyData) (A : List Bool) (a ln c t : Addr) : Prop where
  hL : L ≤ 8
  he : Jv.Dv K (Jv.hide [h] H) ve de
  hA : EndsOf de L A
  ha : H a = some (.lst (A.map V.bl))
  na : a ≠ h
  dl : Jv.Dv K (Jv.hide [h] H) (.ref ln) (.list (lawD A))
  hc : H c = some (.lst ((tabl (rN 399 (gT 399 A) 1) (gT 399 A)).map V.int))
  nc : c ≠ h
  ht : Jv.Dv K (Jv.hide [h] H) (.ref t) (.tuple ((crn 399 (gT 399 A)).reverse.map Jv.pairD))
theorem Sd.kp {K : PySem.W.Frag} {h : Addr} {H H' : Hp} {L : Nat} {ve : V} {de : PyData} {A : List Bool} {a ln c t : Addr} (g : Sd K h H L ve de A a ln c t) (k : Jv.Kp h H H') : Sd K h H' L ve de A a ln c t :=
  ⟨g.hL, g.he.same k.hide, g.hA, k _ _ g.na g.ha, g.na, g.dl.same k.hide, k _ _ g.nc g.hc, g.nc, g.ht.same k.hide⟩
theorem can_prs : ∀ cs : List (Int × Int), PyData.canLayAll0 (cs.map Jv.pairD) = true ∧ PyData.depthAll (cs.map Jv.pairD) ≤ 2
  | [] => ⟨by simp [PyData.canLayAll0], by simp [PyData.depthAll]⟩
  | c :: r => by
    obtain ⟨h1, h2⟩ := can_prs r
    obtain ⟨h3, h4⟩ := can_ints [c.1, c.2]
    simp only [List.map_cons, List.map_nil] at h3 h4
    refine ⟨?_, ?_⟩
    · rw [List.map_cons]; unfold Jv.pairD; simp only [PyData.canLayAll0, PyData.canLay0, h1, h3, Bool.and_self, Bool.true_and]
      exact h1
    · rw [List.map_cons]; unfold Jv.pairD; simp only [PyData.depthAll, PyData.depth] at h2 h4 ⊢
      unfold Jv.pairD at h2
      omega
theorem shaped_prs (cs : List (Int × Int)) : SeqAt.shaped (.tuple (cs.map Jv.pairD)) = true := by
  obtain ⟨h1, h2⟩ := can_prs cs
  unfold SeqAt.shaped
  simp only [PyData.canLay0, PyData.depth, h1, Bool.true_and]
  exact decide_eq_true (by omega)
theorem line_zero {L : Nat} {A : List Bool} (hL : L ≤ 8) (h : A.length = L + 1) (j : Nat) (hj : rN 399 (gT 399 A) 1 ≤ j) : gT 399 A (j + 1) = 0 := by
  have := line_at hL h (m := j + 1) (by omega)
  have : ¬ 1 ≤ gT 399 A (j + 1) := fun z => by have := this.mpr z; omega
  omega
theorem line_pos {L : Nat} {A : List Bool} (hL : L ≤ 8) (h : A.length = L + 1) (j : Nat) (hj : j < rN 399 (gT 399 A) 1) : 1 ≤ gT 399 A (j + 1) := (line_at hL h (m := j + 1) (by omega)).mp (by omega)
theorem crn_line {L : Nat} {A : List Bool} (hL : L ≤ 8) (h : A.length = L + 1) : crn 399 (gT 399 A) = crn (rN 399 (gT 399 A) 1) (gT 399 A) := crn_same rN_leM (line_zero hL h)
/-- couples to ask for -/
def Cps (H : Hp) (ys : List V) : Prop := ∀ v ∈ ys, ∃ t x z, v = .ref t ∧ H t = some (.tup [.int x, .int z]) ∧ 1 ≤ z
theorem Cps.kp {H H' : Hp} {ys : List V} {p l : Addr} (h : Cps H ys) (hh : Jv.Hand H p l) (k : Jv.Kp p H H') : Cps H' ys := fun v m => by
  obtain ⟨t, x, z, e, q, b⟩ := h v m
  exact ⟨t, x, z, e, k _ _ (hh.neTup q) q, b⟩
theorem Cps.same {H H' : Hp} {ys : List V} (h : Cps H ys) (s : Same H H') : Cps H' ys := fun v m => by
  obtain ⟨t, x, z, e, q, b⟩ := h v m
  exact ⟨t, x, z, e, s _ _ q, b⟩
theorem crn_snd {W : Nat} {f : Nat → Nat} : ∀ c ∈ crn W f, 1 ≤ c.2 := fun c hc => by
  unfold crn at hc
  obtain ⟨j, _, rfl⟩ := List.mem_map.mp hc
  show (1 : Int) ≤ (j : Int) + 1
  omega
theorem crn_len {W : Nat} {f : Nat → Nat} : (crn W f).length ≤ W := by
  unfold crn
  rw [List.length_map]
  have := List.length_filter_le (fun j => decide (f (j + 2) < f (j + 1))) (List.range W)
  rw [List.length_range] at this
  exact this
theorem tabl_down {W : Nat} {f : Nat → Nat} (h : Ant f) : (tabl W f).Pairwise (· ≥ ·) := by
  unfold tabl
  rw [List.pairwise_map]
  refine List.Pairwise.imp (R := fun a b => a < b) (fun {a b} hab => ?_) List.pairwise_lt_range
  have := h (a + 1) (b + 1) (by omega) (by omega)
  show ((f (a + 1) : Nat) : Int) ≥ ((f (b + 1) : Nat) : Int)
  omega
def sp_lawT (K : PySem.W.Frag) (Pt : Addr) : Sp := fun vs H Q _ => ∃ (a : Addr) (ns : List Int), vs = [.ref a] ∧ SqL K H a (ns.map V.int) ∧ ns.length ≤ 63 ∧ H Pt = some (.tbl #[]) ∧ ∀ H', Q (.bl true) H'
end K39

namespace K39
open PySem PySem.Spec PyProof.Rows L2
/-! ### the law -/
section
variable {P : Program} {w : World} {K : PySem.W.Frag} {mg : Str → Option Value} {base : Heap}
theorem ok_law (T : Tx) (O : Ok K mg T) {c0 Pt : Addr} (C : LawC K T c0) (TB : LamX.TabB base mg c0 Pt) : FnOk P w K mg base CX0 14 T.f_law T.d_law ["_law_script"] (sp_lawT K Pt) := by
  refine O.F_law.ok sc_law (fun vs H Q E h => by obtain ⟨_, _, rfl, _⟩ := h; rfl) (fun cdv A0 outer s H vs Q E hr h => ?_)
  obtain ⟨sc, ns, rfl, hS, few, hP, fin⟩ := h
  refine ⟨_, (pss_cons (ps_set (i := 1) sc_law.nd rfl (Or.inr rfl) (pe_call (ok_Lhand T O) (hr.mono (by decide)) (by rfl) O.m_Lhand O.F_Lhand.kp O.b_Lhand .nil pass0 (pa_cons (pv 0) pa_nil)))
  (pss_cons (ps_set (i := 2) sc_law.nd rfl (Or.inl rfl) (pe_ix (r := rIxL K) ix_list (pe_lst (pa_cons pe_int (pa_cons pe_int (pa_cons pe_int (pa_cons pe_int (pa_cons pe_int (pa_cons pe_int (pa_cons pe_int (pa_cons pe_int (pa_cons pe_int (pa_cons pe_int (pa_cons pe_int (pa_cons pe_int (pa_cons pe_int (pa_cons pe_int (pa_cons pe_int (pa_cons pe_int pa_nil))))))))))))))))) (pe_call (ok_Ldraw T O) (hr.mono (by decide)) (by rfl) O.m_Ldraw O.F_Ldraw.kp O.b_Ldraw .nil pass0 (pa_cons (pv 1) (pa_cons pe_int pa_nil))) (fun _ _ => rfl)))
  (pss_cons (ps_set (i := 3) sc_law.nd rfl (Or.inl rfl) (pe_call (ok_Lsome_ends T O) (hr.mono (by decide)) (by rfl) O.m_Lsome_ends O.F_Lsome_ends.kp O.b_Lsome_ends .nil pass0 (pa_cons (pv 1) (pa_cons (pv 2) pa_nil))))
  (pss_cons (ps_set (i := 4) sc_law.nd rfl (Or.inl rfl) (pe_call (ok_Lallowed T O) (hr.mono (by decide)) (by rfl) O.m_Lallowed O.F_Lallowed.kp O.b_Lallowed .nil pass0 (pa_cons (pv 2) (pa_cons (pv 3) pa_nil))))
  (pss_cons (ps_set (i := 5) sc_law.nd rfl (Or.inl rfl) (pe_call (ok_Llines T O) (hr.mono (by decide)) (by rfl) O.m_Llines O.F_Llines.kp O.b_Llines .nil pass0 (pa_cons (pv 4) pa_nil)))
  (pss_cons (ps_set (i := 6) sc_law.nd rfl (Or.inl rfl) (pe_ix (r := rIxL K) ix_list (pv 5) pe_int (fun _ _ => rfl)))
  (pss_cons (ps_set (i := 7) sc_law.nd rfl (Or.inl rfl) (pe_callN (E := E0) (ok_staircase T O) (hr.mono (by decide)) (by rfl) O.m_staircase O.F_staircase.kp O.kb1_ends_staircase passL (pa_cons (pv 2) pa_nil) (pk_cons (pv 3) pk_nil)))
  (pss_cons (ps_if (PW.pt (pw_or (pt_cmpR (r := rNeD K) (op_neD hr.units) (pv 7) (pe_call (ok_Lcorners T O) (hr.mono (by decide)) (by rfl) O.m_Lcorners O.F_Lcorners.kp O.b_Lcorners .nil pass0 (pa_cons (pv 6) pa_nil)) (nomark _)) (pw_or1 (pt_not (pt_val (pe_callB (r := rIsi K) call_isi (by rfl) O.z_isinstance (by decide +kernel) (pa_cons (pv 7) (pa_cons (pe_bltn (v := .ty "tuple") (by rfl) O.z_tuple (by decide +kernel) rfl) pa_nil)))))))) (pss_one (ps_ret pe_bl)) pss_nil)
  (pss_cons (ps_if (pt_cmpR (r := rNeD K) (op_neD hr.units) (pe_lc (own := [("_law_one", 8)]) (by rfl) sc_law.nd (show PI _ _ _ (iTup K _) from pi_tup (pv 7)) (blkOk_by (own := [("_law_one", 8)]) (N := ["_law_script", "_law_hand_here", "_law_ladder", "_law_limits", "_law_allowed_here", "_law_lines_here", "_law_line", "_law_corners_here", "_law_one", "_law_many", "_law_asked", "_law_other", "_law_is_right", "_law_served", "_law_free", "_law_turn", "_law_least_here", "_law_corner"]) (sc := defScope s_law) (scope := ({ kind := .function, names := [(".0", .local), ("_law_one", .local), ("_law_numbers", .globalImplicit)], isGenerator := false, isCoroutine := false } : Scope)) (by decide +kernel)) (fun _ _ _ _ _ => (pg_name (i := 8) sc_law.nd rfl (Or.inl rfl))) (fun _ _ _ _ _ => (pts_one (pt_not (pt_val (pe_call (ok_Lnumbers T O) (hr.mono (by decide)) (by rfl) O.m_Lnumbers O.F_Lnumbers.kp O.b_Lnumbers .nil pass0 (pa_cons (pv 8) (pa_cons pe_int pa_nil))))))) (fun _ _ _ _ _ => (pv 8))) (pe_lst pa_nil) (nomark _)) (pss_one (ps_ret pe_bl)) pss_nil)
  (C8.pss_cut (ps_if (PW.pt (pw_and (pt_cmpR (r := rNeD K) (op_neD hr.units) (pv 6) (pe_lst pa_nil) (nomark _)) (pw_and1 (PW.pt (pw_or (pt_cmpR op_ne (pe_ix (r := rIxL K) ix_list (pv 6) pe_int (fun _ _ => rfl)) (pe_callN (E := E0) (ok_told_within T O) (hr.mono (by decide)) (by rfl) O.m_told_within O.F_told_within.kp O.kb1_ends_told_within passL (pa_cons (pv 2) pa_nil) (pk_cons (pv 3) pk_nil)) (nomark _)) (pw_or1 (pt_cmpR (r := rNeD K) (op_neD hr.units) (pv 6) (pe_callBK (cr_sortedRev (b := true)) (by rfl) O.z_sorted (by decide +kernel) (pa_cons (pv 6) pa_nil) (pk_cons pe_bl pk_nil)) (nomark _)))))))) (pss_one (ps_ret pe_bl)) pss_nil)
  (pss_cons (ps_for PassesOwn.never rfl (show PI _ _ _ (iList K _) from pi_list (pe_lst (pa_cons pe_int (pa_cons pe_int (pa_cons pe_int (pa_cons (pe_callB (r := Jv.rLenK K) Jv.cr_len (by rfl) O.z_len (by decide +kernel) (pa_cons (pv 6) pa_nil)) (pa_cons (pe_op op_add (pe_callB (r := Jv.rLenK K) Jv.cr_len (by rfl) O.z_len (by decide +kernel) (pa_cons (pv 6) pa_nil)) pe_int) (pa_cons (pe_op op_add pe_int (pe_call (ok_Ldraw T O) (hr.mono (by decide)) (by rfl) O.m_Ldraw O.F_Ldraw.kp O.b_Ldraw .nil pass0 (pa_cons (pv 1) (pa_cons pe_int pa_nil)))) (pa_cons (pe_op op_add (pe_op op_pow pe_int pe_int) (pe_call (ok_Ldraw T O) (hr.mono (by decide)) (by rfl) O.m_Ldraw O.F_Ldraw.kp O.b_Ldraw .nil pass0 (pa_cons (pv 1) (pa_cons pe_int pa_nil)))) pa_nil))))))))) (pg_name (i := 9) sc_law.nd rfl (Or.inl rfl)) (pss_one (ps_if (PW.pt (pw_and (pt_cmpR op_gt (pv 9) pe_int (nomark _)) (pw_and1 (pt_not (pt_val (pe_call (ok_Lright_number T O) (hr.mono (by decide)) (by rfl) O.m_Lright_number O.F_Lright_number.kp O.b_Lright_number .nil pass0 (pa_cons (pv 2) (pa_cons (pv 3) (pa_cons (pv 4) (pa_cons (pv 5) (pa_cons (pv 9) pa_nil))))))))))) (pss_one (ps_ret pe_bl)) pss_nil)))
  (pss_cons (ps_setLc (i := 10) (own := [("_law_corner", 17)]) (by rfl) sc_law.nd rfl rfl (sw_true rfl rfl rfl (by decide +kernel)) (show PI _ _ _ (iTup K _) from pi_tup (pe_slice (r := rSlA K) sl_tupA (pv 7) po_none (po_some pe_int))) (blkOk_by (own := [("_law_corner", 17)]) (N := ["_law_script", "_law_hand_here", "_law_ladder", "_law_limits", "_law_allowed_here", "_law_lines_here", "_law_line", "_law_corners_here", "_law_one", "_law_many", "_law_asked", "_law_other", "_law_is_right", "_law_served", "_law_free", "_law_turn", "_law_least_here", "_law_corner"]) (sc := defScope s_law) (scope := ({ kind := .function, names := [(".0", .local), ("_law_corner", .local), ("_law_draw", .globalImplicit), ("_law_hand_here", .free)], isGenerator := false, isCoroutine := false } : Scope)) (by decide +kernel)) (fun _ _ _ _ _ => (pg_name (i := 17) sc_law.nd rfl (Or.inl rfl))) (fun _ _ _ _ _ => pts_nil) (fun _ _ _ _ _ => (pe_tup (pa_cons (pe_op op_sub (pe_op op_add (pe_ix (r := rIxT K) ix_tup (pv 17) pe_int (fun _ _ => rfl)) (pe_call (ok_Ldraw T O) (hr.mono (by decide)) (by rfl) O.m_Ldraw O.F_Ldraw.kp O.b_Ldraw .nil pass0 (pa_cons (pv 1) (pa_cons pe_int pa_nil)))) pe_int) (pa_cons (pe_op op_add (pe_ix (r := rIxT K) ix_tup (pv 17) pe_int (fun _ _ => rfl)) (pe_call (ok_Ldraw T O) (hr.mono (by decide)) (by rfl) O.m_Ldraw O.F_Ldraw.kp O.b_Ldraw .nil pass0 (pa_cons (pv 1) (pa_cons pe_int pa_nil)))) pa_nil)))))
  (pss_cons (ps_set (i := 10) sc_law.nd rfl (Or.inl rfl) (pe_op op_cat (pv 10) (pe_lst (pa_cons (pe_tup (pa_cons (pe_op op_add pe_int (pe_call (ok_Ldraw T O) (hr.mono (by decide)) (by rfl) O.m_Ldraw O.F_Ldraw.kp O.b_Ldraw .nil pass0 (pa_cons (pv 1) (pa_cons pe_int pa_nil)))) (pa_cons (pe_op op_add pe_int (pe_call (ok_Ldraw T O) (hr.mono (by decide)) (by rfl) O.m_Ldraw O.F_Ldraw.kp O.b_Ldraw .nil pass0 (pa_cons (pv 1) (pa_cons pe_int pa_nil)))) pa_nil))) (pa_cons (pe_tup (pa_cons (pe_op op_pow pe_int pe_int) (pa_cons pe_int pa_nil))) (pa_cons (pe_tup (pa_cons pe_int (pa_cons (pe_op op_pow pe_int pe_int) pa_nil))) (pa_cons (pe_tup (pa_cons pe_int (pa_cons pe_int pa_nil))) pa_nil)))))))
  (pss_cons (ps_for PassesOwn.never rfl (show PI _ _ _ (iList K _) from pi_list (pv 10)) (pg_tup rfl (pgs_cons (pg_name (i := 8) sc_law.nd rfl (Or.inl rfl)) (pgs_cons (pg_name (i := 11) sc_law.nd rfl (Or.inl rfl)) pgs_nil))) (pss_one (ps_if (pt_cmpR op_gt (pv 8) pe_int (nomark _)) (pss_cons (ps_set (i := 12) sc_law.nd rfl (Or.inl rfl) (pe_and (pe_cmpR op_le (pv 11) (pe_callB (r := Jv.rLenK K) Jv.cr_len (by rfl) O.z_len (by decide +kernel) (pa_cons (pv 6) pa_nil)) (nomark _)) (pe_one (pe_cmpR op_le (pv 8) (pe_ix (r := rIxL K) ix_list (pv 6) (pe_op op_sub (pv 11) pe_int) (fun _ _ => rfl)) (nomark _)))))
  (pss_cons (ps_set (i := 13) sc_law.nd rfl (Or.inl rfl) (pe_callN (E := E0) (ok_serves_both T O) (hr.mono (by decide)) (by rfl) O.m_serves_both O.F_serves_both.kp O.kb3_ends_serves_both passL (pa_cons (pv 2) (pa_cons (pv 8) (pa_cons (pv 11) pa_nil))) (pk_cons (pv 3) pk_nil)))
  (pss_one (ps_if (PW.pt (pw_or (pt_not (pt_val (pe_callB (r := rIsi K) call_isi (by rfl) O.z_isinstance (by decide +kernel) (pa_cons (pv 13) (pa_cons (pe_bltn (v := .ty "bool") (by rfl) O.z_bool (by decide +kernel) rfl) pa_nil))))) (pw_or1 (pt_cmpR op_ne (pv 13) (pv 12) (nomark _))))) (pss_one (ps_ret pe_bl)) pss_nil)))) pss_nil)))
  (pss_cons (ps_if (PW.pt (pw_or (pt_cmpR (r := rNeD K) (op_neD hr.units) (pe_call (E := E0) (ok_staircase T O) (hr.mono (by decide)) (by rfl) O.m_staircase O.F_staircase.kp O.b1_staircase.2 O.b1_staircase.1 passL (pa_cons (pv 2) pa_nil)) (pe_call (ok_Lcorners T O) (hr.mono (by decide)) (by rfl) O.m_Lcorners O.F_Lcorners.kp O.b_Lcorners .nil pass0 (pa_cons (pe_ix (r := rIxL K) ix_list (pe_call (ok_Llines T O) (hr.mono (by decide)) (by rfl) O.m_Llines O.F_Llines.kp O.b_Llines .nil pass0 (pa_cons (pe_call (ok_Lallowed T O) (hr.mono (by decide)) (by rfl) O.m_Lallowed O.F_Lallowed.kp O.b_Lallowed .nil pass0 (pa_cons (pv 2) (pa_cons pe_non pa_nil))) pa_nil)) pe_int (fun _ _ => rfl)) pa_nil)) (nomark _)) (pw_or1 (pt_cmpR op_ne (pe_call (E := E0) (ok_most_both T O) (hr.mono (by decide)) (by rfl) O.m_most_both O.F_most_both.kp O.b1_most_both.2 O.b1_most_both.1 passL (pa_cons (pv 2) (pa_cons pe_int pa_nil))) (pe_call (E := E0) (ok_told_within T O) (hr.mono (by decide)) (by rfl) O.m_told_within O.F_told_within.kp O.b3_told_within.2 O.b3_told_within.1 passL (pa_cons (pv 2) pa_nil)) (nomark _))))) (pss_one (ps_ret pe_bl)) pss_nil)
  (pss_cons (ps_set (i := 14) sc_law.nd rfl (Or.inl rfl) (pe_call (ok_Llines T O) (hr.mono (by decide)) (by rfl) O.m_Llines O.F_Llines.kp O.b_Llines .nil pass0 (pa_cons (pe_lc (own := [("_law_one", 8)]) (by rfl) sc_law.nd (pi_range1 (by rfl) O.z_range (pa_cons pe_int pa_nil)) (blkOk_by (own := [("_law_one", 8)]) (N := ["_law_script", "_law_hand_here", "_law_ladder", "_law_limits", "_law_allowed_here", "_law_lines_here", "_law_line", "_law_corners_here", "_law_one", "_law_many", "_law_asked", "_law_other", "_law_is_right", "_law_served", "_law_free", "_law_turn", "_law_least_here", "_law_corner"]) (sc := defScope s_law) (scope := ({ kind := .function, names := [(".0", .local), ("_law_one", .local)], isGenerator := false, isCoroutine := false } : Scope)) (by decide +kernel)) (fun _ _ _ _ _ => (pg_name (i := 8) sc_law.nd rfl (Or.inl rfl))) (fun _ _ _ _ _ => pts_nil) (fun _ _ _ _ _ => pe_bl)) pa_nil)))
  (pss_cons (ps_for PassesOwn.never rfl (pi_range1 (by rfl) O.z_range (pa_cons pe_int pa_nil)) (pg_name (i := 15) sc_law.nd rfl (Or.inl rfl)) (pss_cons (ps_par (i := 8) (j := 11) rfl sc_law.nd rfl rfl (by decide) rfl rfl (pa_cons (pe_op op_add pe_int (pe_call (ok_Ldraw T O) (hr.mono (by decide)) (by rfl) O.m_Ldraw O.F_Ldraw.kp O.b_Ldraw .nil pass0 (pa_cons (pv 1) (pa_cons pe_int pa_nil)))) (pa_cons (pe_op op_add pe_int (pe_call (ok_Ldraw T O) (hr.mono (by decide)) (by rfl) O.m_Ldraw O.F_Ldraw.kp O.b_Ldraw .nil pass0 (pa_cons (pv 1) (pa_cons pe_int pa_nil)))) pa_nil)) rfl)
  (pss_cons (ps_set (i := 16) sc_law.nd rfl (Or.inl rfl) (pe_call (E := E0) (ok_least_both T O) (hr.mono (by decide)) (by rfl) O.m_least_both O.F_least_both.kp O.b_least_both .nil passL (pa_cons (pv 8) (pa_cons (pv 11) pa_nil))))
  (pss_one (ps_if (PW.pt (pw_or (pt_not (pt_val (pe_call (ok_Lis_number T O) (hr.mono (by decide)) (by rfl) O.m_Lis_number O.F_Lis_number.kp O.b_Lis_number .nil pass0 (pa_cons (pv 16) pa_nil)))) (pw_or1 (pt_cmpR op_ne (pv 16) (pe_call (ok_Lleast T O) (hr.mono (by decide)) (by rfl) O.m_Lleast O.F_Lleast.kp O.b_Lleast .nil pass0 (pa_cons (pv 14) (pa_cons (pv 8) (pa_cons (pv 11) pa_nil)))) (nomark _))))) (pss_one (ps_ret pe_bl)) pss_nil)))))
  (pss_one (ps_ret (pe_call (ok_Lright_refusals T O C TB) (hr.mono (by decide)) (by rfl) O.m_Lright_refusals O.F_Lright_refusals.kp O.b_Lright_refusals .nil pass0 (pa_cons (pv 1) (pa_cons (pv 2) (pa_cons (pv 3) pa_nil))))))))))))))))))))))), ?_⟩
  walk_at "r"
  refine ⟨sc, ns, rfl, hS, few, fun h hl H0 s0 nh hh => ?_⟩
  have hP0 := s0 _ _ hP
  have nPh : Pt ≠ h := fun e => by rw [e, nh] at hP; cases hP
  walk_at "r"
  intro t1 ht1
  generalize e1 : L2.upd _ _ _ = G1
  obtain ⟨s1, f1⟩ := new_of ht1 e1
  clear e1
  obtain ⟨n1, _⟩ := hh.ne2 ht1
  walk_at "r"
  refine dr (m := 16) (hh.same s1) (by decide) (by decide) fun z H2 z0 z1 k2 h2 => ?_
  replace f1 := k2 _ _ n1 f1
  walk_at "r"
  refine pickV f1 z0 z1 fun v hv => ?_
  obtain ⟨L, rfl, hL⟩ : ∃ L : Nat, v = .int L ∧ L ≤ 8 := by
    simp only [List.mem_cons, List.not_mem_nil, or_false] at hv
    rcases hv with rfl | rfl | rfl | rfl | rfl | rfl | rfl | rfl | rfl | rfl | rfl | rfl | rfl | rfl | rfl | rfl
    · exact ⟨3, rfl, by decide⟩
    · exact ⟨4, rfl, by decide⟩
    · exact ⟨5, rfl, by decide⟩
    · exact ⟨2, rfl, by decide⟩
    · exact ⟨6, rfl, by decide⟩
    · exact ⟨7, rfl, by decide⟩
    · exact ⟨1, rfl, by decide⟩
    · exact ⟨8, rfl, by decide⟩
    · exact ⟨0, rfl, by decide⟩
    · exact ⟨5, rfl, by decide⟩
    · exact ⟨8, rfl, by decide⟩
    · exact ⟨7, rfl, by decide⟩
    · exact ⟨6, rfl, by decide⟩
    · exact ⟨4, rfl, by decide⟩
    · exact ⟨6, rfl, by decide⟩
    · exact ⟨3, rfl, by decide⟩
  have kp2 := (Jv.Kp.same (p := h) s1).trans k2
  clear hv f1 n1 z0 z1 k2 s1 ht1
  walk_at "r"
  refine ⟨h, hl, L, rfl, h2, by omega, fun ve de H3 k3 h3 he hE => ?_⟩
  have hP3 := (kp2.trans k3) _ _ nPh hP0
  clear kp2 k3 h2 hP0
  walk_at "r"
  refine ⟨L, ve, de, rfl, he.same Jv.hide_le, hE, by omega, fun A a H4 hA s4 na0 ha => ?_⟩
  have nah := (h3.ne2 na0).1
  have lA := hA.len
  walk_at "r"
  refine ⟨a, A, rfl, ha, by omega, fun v5 H5 s5 dv5 => ?_⟩
  have h5 := h3.same (s4.trans s5)
  obtain ⟨ln, c, vs5, rfl, hln, hc⟩ : ∃ (ln c : Addr) (vs : List V), v5 = .ref ln ∧ H5 ln = some (.lst (.ref c :: vs)) ∧ H5 c = some (.lst ((tabl (rN 399 (gT 399 A) 1) (gT 399 A)).map V.int)) := by
    cases A with
    | nil => exact absurd rfl hA.ne
    | cons b bs =>
      obtain ⟨ln, c, vs, e, h1, h2, _⟩ := lawD_hd dv5
      exact ⟨ln, c, vs, e, h1, h2⟩
  have dl : Jv.Dv K (Jv.hide [h] H5) (.ref ln) (.list (lawD A)) := by
    rw [lawD_eq] at dv5 ⊢
    exact lines_hide h5 dv5
  have nc := Jv.ints_ne h5 hc
  have he5 := he.same (Jv.hide_same (s4.trans s5))
  walk_at "r"
  refine Jv.r_ixL (Jv.sqL_at hln) (Jv.at_i (by decide) (by rfl)) ?_
  walk_at "r"
  refine ⟨rfl, rfl, .int L, ve, rfl, .good hL (.dv (he5.same Jv.hide_le)) hA rfl fun t H6 s6 dt => ?_⟩
  have h6 := h5.same s6
  have g : Sd K h H6 L ve de A a ln c t := ⟨hL, he5.same (Jv.hide_same s6), hA, s6 _ _ (s5 _ _ ha), nah, dl.same (Jv.hide_same s6), s6 _ _ hc, nc, Jv.prsT_hide h6 dt⟩
  have hP6 := s6 _ _ (s5 _ _ (s4 _ _ hP3))
  have len := line_len hL lA
  clear hP3 na0 ha dv5 hln hc dl nc he5 he h5 h3 s4 s5 s6 nah
  walk_at "r"
  refine ⟨c, _, _, rfl, g.hc, rN_leM, line_pos hL lA, line_zero hL lA, fun t2 H7 s7 dt2 => ?_⟩
  rw [← crn_line hL lA] at dt2
  refine Jv.ne_self (d := .tuple ((crn 399 (gT 399 A)).reverse.map Jv.pairD)) (dt.same s7) dt2 (shaped_prs _) ?_
  walk_at "r"
  refine Jv.d_isT (dt.same s7) ?_
  walk_at "r"
  obtain ⟨ys, hts, al⟩ : ∃ ys, SqT K H7 t ys ∧ Jv.DvAll K H7 ys ((crn 399 (gT 399 A)).reverse.map Jv.pairD) := by
    have d := dt.same s7
    cases d with
    | tup h1 h2 => exact ⟨_, h1, h2⟩
  refine Jv.lcNo (i := 7) (by rfl) hts (fun k v H8 hv s8 R hR => ?_) (fun D8 H8 s8 hD8 e8 => ?_)
  · obtain ⟨d, hd, dv⟩ := (al.same s8).at hv
    obtain ⟨cc, _, rfl⟩ := List.mem_map.mp (List.mem_of_getElem? hd)
    cases dv with
    | tup h1 q =>
      cases q with
      | cons q1 q =>
        cases q with
        | cons q2 q =>
          cases q; cases q1; cases q2
          walk_at "r"
          exact ⟨_, [cc.1, cc.2], rfl, h1, by simp, fun H9 s9 => ⟨true, rfl, hR _ s9⟩⟩
  walk_at "r"
  intro p9 hp9
  refine Jv.ne_self (d := .list []) (.lst (Jv.same_new hp9 _ _ e8) .nil) (.lst upd_same .nil) (shaped_ints []).1 ?_
  have s9 := Jv.same_new (u := .lst []) hp9
  generalize L2.upd _ _ _ = H9 at s9 ⊢
  have s69 := (s7.trans s8).trans s9
  clear s7 s8 s9 e8 hD8 hp9 hts al dt2
  walk_at "r"
  refine ⟨fun σ' H' => σ' = [some (.ref sc), some (.ref h), some (.int L), some ve, some (.ref a), some (.ref ln), some (.ref c), some (.ref t), none, none, none, none, none, none, none, none, none, none] ∧ Same H6 H', ?_, ?_⟩
  · have gc := s69 _ _ g.hc
    walk_at "r"
    intro p10 hp10
    have sp := Jv.same_new (u := .lst []) hp10
    have ep : L2.upd H9 p10 (.lst []) p10 = some (.lst []) := upd_same
    replace gc := sp _ _ gc
    have s610 := s69.trans sp
    generalize L2.upd _ _ _ = H10 at sp ep gc s610 ⊢
    by_cases w0 : rN 399 (gT 399 A) 1 = 0
    · rw [w0] at gc
      refine Jv.ne_self (d := .list []) (.lst gc .nil) (.lst ep .nil) (shaped_ints []).1 ?_
      walk_at "r"
      exact ⟨rfl, s610⟩
    · have ev : PyData.eqv (iD (tabl (rN 399 (gT 399 A) 1) (gT 399 A))) (.list []) = false := by
        cases e : tabl (rN 399 (gT 399 A) 1) (gT 399 A) with
        | nil =>
          have := congrArg List.length e
          rw [tabl_len] at this
          exact absurd this w0
        | cons a r => simp [iD, PyData.eqv, PyData.eqvAll]
      refine ⟨_, _, (iD_of gc).dp, (Jv.Dv.lst ep .nil).dp, (shaped_ints _).1, (shaped_ints []).1, ?_⟩
      rw [ev]
      walk_at "r"
      refine Jv.r_ixL (Jv.sqL_at gc) (Jv.at_i (v := .int (gT 399 A 1 : Nat)) (by decide) (by rw [List.getElem?_map]; exact congrArg (Option.map V.int) (tabl_at (j := 0) (by omega)))) ?_
      walk_at "r"
      refine ⟨rfl, rfl, .int L, ve, .non, .int 0, rfl, ⟨.int L, de, .none, .int 0, .int _, .dv ((g.he.same (Jv.hide_same s610)).same Jv.hide_le), .non, .int _, .inr ⟨L, rfl, by omega, .inr ⟨A, hA, .inr ⟨L + 1, .inl ⟨rfl, rfl⟩, .inr ⟨0, rfl, by omega, fun H11 s11 => ?_⟩⟩⟩⟩⟩⟩
      rw [told_one (M := 399) hA.ne (by rw [lA]; exact tc_far hL) (by rw [lA]; omega)]
      replace gc := s11 _ _ gc
      walk_at "r"
      rw [decide_eq_true (rfl : V.int (gT 399 A 1 : Nat) = V.int (gT 399 A 1 : Nat))]
      walk_at "r"
      refine Jv.r_ckw ?_
      walk_at "r"
      refine ⟨c, tabl (rN 399 (gT 399 A) 1) (gT 399 A), rfl, rfl, Jv.sqL_at gc, fun ns' p12 perm ord hp12 => ?_⟩
      have e12 : ns' = tabl (rN 399 (gT 399 A) 1) (gT 399 A) := List.Perm.eq_of_pairwise (le := (· ≥ ·)) (fun x y _ _ h1 h2 => Int.le_antisymm h2 h1) ord (tabl_down gT_ant) perm
      subst e12
      refine Jv.ne_self (d := iD (tabl (rN 399 (gT 399 A) 1) (gT 399 A))) (iD_of (Jv.same_new hp12 _ _ gc)) (iD_of upd_same) (shaped_ints _).1 ?_
      walk_at "r"
      exact ⟨rfl, (s610.trans s11).trans (Jv.same_new hp12)⟩
  rintro σ H10 ⟨rfl, s10⟩
  replace g := g.kp (Jv.Kp.same s10)
  replace h6 := h6.same s10
  replace hP6 := s10 _ _ hP6
  have gc := g.hc
  clear s69 s10 dt
  walk_at "r"
  refine dr h6 (by decide) (by decide) fun z1 H11 _ _ k11 h11 => ?_
  walk_at "r"
  refine dr h11 (by decide) (by decide) fun z2 H12 _ _ k12 h12 => ?_
  walk_at "r"
  intro p13 hp13
  generalize e13 : L2.upd _ _ _ = H13
  obtain ⟨s13, f13⟩ := new_of hp13 e13
  clear e13
  have k13 := (k11.trans k12).trans (Jv.Kp.same s13)
  replace g := g.kp k13
  have h13 := h12.same s13
  have hP13 := k13 _ _ nPh hP6
  clear k11 k12 k13 h6 h11 h12 s13 hP6 hp13 gc
  refine ⟨p13, rfl, ⟨_, Jv.sqL_at f13⟩, ?_⟩
  refine for_list (fun i σ H' => ∃ y9, σ = [some (.ref sc), some (.ref h), some (.int L), some ve, some (.ref a), some (.ref ln), some (.ref c), some (.ref t), none, y9, none, none, none, none, none, none, none, none] ∧ Same H13 H')
    ⟨_, rfl, Same.refl _⟩ (fun _ _ _ _ ⟨_, _, s⟩ => Jv.sqL_at (s _ _ f13)) ?_ ?_
  · rintro i x σ H14 hx ⟨y9, rfl, s14⟩
    obtain ⟨z, rfl⟩ : ∃ z : Int, x = .int z := by
      have := List.mem_of_getElem? hx
      simp only [List.mem_cons, List.not_mem_nil, or_false] at this
      rcases this with rfl | rfl | rfl | rfl | rfl | rfl | rfl <;> exact ⟨_, rfl⟩
    walk_at "r"
    refine Jv.r_dec (fun pos => ?_) (fun _ => ?_)
    · obtain ⟨m, rfl⟩ : ∃ m : Nat, z = m := ⟨z.toNat, by omega⟩
      walk_at "r"
      have g' := g.kp (Jv.Kp.same s14)
      refine ⟨L, m, ve, a, ln, de, A, rfl, hL, by omega, g'.he.same Jv.hide_le, hA, g'.ha, g'.dl.same Jv.hide_le, fun H15 s15 => ?_⟩
      walk_at "r"
      exact ⟨_, rfl, s14.trans s15⟩
    · exact ⟨_, rfl, s14⟩
  rintro σ H14 ⟨y9, rfl, s14⟩
  replace g := g.kp (Jv.Kp.same s14)
  have h14 := h13.same s14
  have hP14 := s14 _ _ hP13
  clear f13 s14 h13 hP13
  walk_at "r"
  obtain ⟨ys, hts, al⟩ : ∃ ys, SqT K (Jv.hide [h] H14) t ys ∧ Jv.DvAll K (Jv.hide [h] H14) ys ((crn 399 (gT 399 A)).reverse.map Jv.pairD) := by
    have d := g.ht
    cases d with
    | tup h1 h2 => exact ⟨_, h1, h2⟩
  refine Jv.lcKpE (p := h) (l := hl) (fun H i y => ∃ (t : Addr) (x z : Int), y = .ref t ∧ H t = some (.tup [.int x, .int z]) ∧ 1 ≤ z) (fun _ _ _ _ s ⟨t, x, z, e, q, b⟩ => ⟨t, x, z, e, s _ _ q, b⟩) fun R hR => ?_
  refine Jv.r_tSl ?_
  walk_at "r"
  refine Jv.r_noPart ?_
  refine Jv.r_part ?_
  walk_at "r"
  refine Jv.r_partI ?_
  refine Jv.r_slA (ys := ys.take 12) (Jv.Same.sqT Jv.hide_le hts) (Jv.cut_take (by decide)) fun t15 H15 s15 sq15 => ?_
  have h15 := h14.same s15
  refine hR t15 (ys.take 12) H15 h15 (Jv.sqT_hideH h15 sq15) (by rw [List.length_take]; omega) (fun i v D Hx hi hv kx hx hD nD hys PP hP => ?_) (fun D16 zs H16 k16 h16 hD16 nD16 e16 ln16 ok => ?_)
  · have alx := (al.same (Jv.hide_same s15)).same kx.hide
    obtain ⟨d, hd, dv⟩ := (Jv.DvAll.take 12 alx).at hv
    obtain ⟨cc, mc, rfl⟩ := List.mem_map.mp (List.mem_of_mem_take (List.mem_of_getElem? hd))
    have c1 := crn_snd cc (List.mem_reverse.mp mc)
    obtain ⟨tv, rfl, h1⟩ : ∃ tv, v = .ref tv ∧ SqT K (Jv.hide [h] Hx) tv [.int cc.1, .int cc.2] := by
      cases dv with
      | tup h1 q =>
        cases q with
        | cons q1 q =>
          cases q with
          | cons q2 q =>
            cases q; cases q1; cases q2
            exact ⟨_, rfl, h1⟩
    walk_at "r"
    refine Jv.r_ixT (Jv.Same.sqT Jv.hide_le h1) rfl ?_
    walk_at "r"
    refine dr hx (by decide) (by decide) fun u1 H16 u10 u11 k16 h16 => ?_
    walk_at "r"
    refine Jv.r_ixT (Jv.Same.sqT Jv.hide_le (Jv.Same.sqT k16.hide h1)) rfl ?_
    walk_at "r"
    refine dr h16 (by decide) (by decide) fun u2 H17 u20 u21 k17 h17 => ?_
    walk_at "r"
    intro p18 hp18
    obtain ⟨yD, hyD⟩ := hys
    have nDp : p18 ≠ D := fun e => by rw [e, k17 _ _ nD (k16 _ _ nD hyD)] at hp18; cases hp18
    have nph := (h17.ne2 hp18).1
    exact hP _ _ ((k16.trans k17).trans (Jv.Kp.new hp18)) (h17.same (Jv.same_new hp18)) ⟨p18, _, _, rfl, Jv.hide_at (by simp [nDp, nph]) upd_same, by omega⟩
  have cps : Cps H16 zs := fun v m => by
    obtain ⟨i, hi, e⟩ := List.getElem_of_mem m
    obtain ⟨t, x, z, e1, q, b⟩ := ok i v (by rw [List.getElem?_eq_getElem hi, e])
    exact ⟨t, x, z, e1, Jv.hide_le _ _ q, b⟩
  replace g := (g.kp (Jv.Kp.same s15)).kp k16
  have hP16 := k16 _ _ nPh (s15 _ _ hP14)
  have ln12 : zs.length ≤ 12 := by rw [ln16, List.length_take]; omega
  clear ok ln16 hts al sq15 s15 h15 h14 hP14 k16 hD16 hR
  walk_at "r"
  refine dr h16 (by decide) (by decide) fun u1 H17 u10 u11 k17 h17 => ?_
  walk_at "r"
  refine dr h17 (by decide) (by decide) fun u2 H18 u20 u21 k18 h18 => ?_
  walk_at "r"
  intro p19 hp19
  generalize e19 : L2.upd _ _ _ = H19
  obtain ⟨s19, f19⟩ := new_of hp19 e19
  clear e19
  walk_at "r"
  intro p20 hp20
  generalize e20 : L2.upd _ _ _ = H20
  obtain ⟨s20, f20⟩ := new_of hp20 e20
  clear e20
  walk_at "r"
  intro p21 hp21
  generalize e21 : L2.upd _ _ _ = H21
  obtain ⟨s21, f21⟩ := new_of hp21 e21
  clear e21
  walk_at "r"
  intro p22 hp22
  generalize e22 : L2.upd _ _ _ = H22
  obtain ⟨s22, f22⟩ := new_of hp22 e22
  clear e22
  walk_at "r"
  intro p23 hp23
  generalize e23 : L2.upd _ _ _ = H23
  obtain ⟨s23, f23⟩ := new_of hp23 e23
  clear e23
  have s1923 := (((s19.trans s20).trans s21).trans s22).trans s23
  have e16' := s1923 _ _ (k18 _ _ nD16 (k17 _ _ nD16 e16))
  walk_at "r"
  refine Jv.r_cat e16' f23 (by simp; omega) fun D24 H24 hD24 s24 e24 => ?_
  have kk : Jv.Kp h H16 H24 := (k17.trans k18).trans (Jv.Kp.same (s1923.trans s24))
  have h24 := h18.same (s1923.trans s24)
  have cps24 : Cps H24 (zs ++ [V.ref p19, V.ref p20, V.ref p21, V.ref p22]) := fun v m => by
    rcases List.mem_append.mp m with m | m
    · exact (cps.kp h16 kk) v m
    · simp only [List.mem_cons, List.not_mem_nil, or_false] at m
      rcases m with rfl | rfl | rfl | rfl
      · exact ⟨p19, _, _, rfl, s24 _ _ (s23 _ _ (s22 _ _ (s21 _ _ (s20 _ _ f19)))), by omega⟩
      · exact ⟨p20, _, _, rfl, s24 _ _ (s23 _ _ (s22 _ _ (s21 _ _ f20))), by decide⟩
      · exact ⟨p21, _, _, rfl, s24 _ _ (s23 _ _ (s22 _ _ f21)), by decide +kernel⟩
      · exact ⟨p22, _, _, rfl, s24 _ _ (s23 _ _ f22), by decide⟩
  replace g := g.kp kk
  have hP24 := kk _ _ nPh hP16
  clear kk s1923 s24 s23 s22 s21 s20 s19 f19 f20 f21 f22 f23 e16' e16 hp19 hp20 hp21 hp22 hp23 k17 k18 h17 h18 h16 hP16 cps hD24 u10 u11 u20 u21
  walk_at "r"
  refine ⟨D24, rfl, ⟨_, Jv.sqL_at e24⟩, ?_⟩
  refine for_list (fun i σ H' => ∃ y8 y9 y11 y12 y13, σ = [some (.ref sc), some (.ref h), some (.int L), some ve, some (.ref a), some (.ref ln), some (.ref c), some (.ref t), y8, y9, some (.ref D24), y11, y12, y13, none, none, none, none] ∧ Same H24 H')
    ⟨_, _, _, _, _, rfl, Same.refl _⟩ (fun _ _ _ _ ⟨_, _, _, _, _, _, s⟩ => Jv.sqL_at (s _ _ e24)) ?_ ?_
  · rintro i v σ H25 hv ⟨y8, y9, y11, y12, y13, rfl, s25⟩
    obtain ⟨tv, x, z, rfl, htv, z1⟩ := cps24 v (List.mem_of_getElem? hv)
    have g' := g.kp (Jv.Kp.same s25)
    have gc := g'.hc
    refine Jv.r_gtup (Jv.sqT_at (s25 _ _ htv)) rfl ?_
    walk_at "r"
    refine Jv.r_dec (fun pos => ?_) (fun _ => ?_)
    · obtain ⟨p, rfl⟩ : ∃ p : Nat, x = p := ⟨x.toNat, by omega⟩
      obtain ⟨q, rfl⟩ : ∃ q : Nat, z = q := ⟨z.toNat, by omega⟩
      have at_ := line_at hL lA (m := q) (by omega)
      walk_at "r"
      refine Jv.r_ifQ (.bl (decide (p ≤ gT 399 A q))) (fun z Q' k' => ?_) (fun z => ?_) ?_
      · have z := of_decide_eq_true z
        rw [List.length_map, tabl_len] at z
        walk_at "r"
        refine Jv.r_ixL (Jv.sqL_at gc) (Jv.at_i (v := .int (gT 399 A q : Nat)) (by omega) (by rw [show ((q : Int) - 1).toNat = q - 1 by omega, List.getElem?_map, tabl_at (by omega), show q - 1 + 1 = q by omega]; rfl)) ?_
        walk_at "r"
        rw [show decide (p ≤ gT 399 A q) = decide ((p : Int) ≤ (gT 399 A q : Nat)) from decide_eq_decide.mpr (by omega)] at k'
        exact k'
      · have z := of_decide_eq_false z
        rw [List.length_map, tabl_len] at z
        have : ¬ 1 ≤ gT 399 A q := fun e => z (by have := at_.mpr e; omega)
        rw [decide_eq_false (show ¬ p ≤ gT 399 A q by omega)]
      walk_at "r"
      refine ⟨rfl, rfl, .int L, .int p, .int q, ve, .int p, .int q, rfl, .int _, .int _, .good hL (.dv (g'.he.same Jv.hide_le)) hA (by simp [whole_pos (show 1 ≤ p by omega), whole_pos (show 1 ≤ q by omega)]) fun p' q' ep eq p1 q1 H26 s26 => ?_⟩
      cases ep
      cases eq
      walk_at "r"
      rw [decide_eq_true (rfl : V.bl (decide (p ≤ gT 399 A q)) = V.bl (decide (p ≤ gT 399 A q)))]
      walk_at "r"
      exact ⟨_, _, _, _, _, rfl, s25.trans s26⟩
    · exact ⟨_, _, _, _, _, rfl, s25⟩
  rintro σ H25 ⟨y8, y9, y11, y12, y13, rfl, s25⟩
  replace g := g.kp (Jv.Kp.same s25)
  have h25 := h24.same s25
  have hP25 := s25 _ _ hP24
  clear cps24 e24 h24 hP24 s25
  have rE := rep_ends L
  have rl := rE.len
  have rlen := line_len hL rl
  walk_at "r"
  refine ⟨.int L, .non, rfl, .good hL (.dv .non) rE rfl fun t26 H26 s26 dt26 => ?_⟩
  walk_at "r"
  refine ⟨L, .non, .none, rfl, .non, .inl rfl, by omega, fun A27 a27 H27 hA27 s27 na27 ha27 => ?_⟩
  obtain rfl : A27 = rep (L + 1) := by
    rcases hA27 with ⟨_, e⟩ | ⟨_, e, _⟩
    · exact e
    · cases e
  walk_at "r"
  refine ⟨a27, _, rfl, ha27, by omega, fun v28 H28 s28 dv28 => ?_⟩
  obtain ⟨ln28, c28, vs28, e28, hl28, hc28, _⟩ := lawD_hd (b := true) (bs := rep L) dv28
  cases e28
  walk_at "r"
  refine Jv.r_ixL (Jv.sqL_at hl28) (Jv.at_i (by decide) (by rfl)) ?_
  walk_at "r"
  refine ⟨c28, _, _, rfl, hc28, rN_leM, line_pos hL rl, line_zero hL rl, fun t29 H29 s29 dt29 => ?_⟩
  have dt29' : Jv.Dv K H29 (.ref t29) (.tuple ((crn 399 (gT 399 (rep (L + 1)))).reverse.map Jv.pairD)) := by rw [crn_line hL rl]; exact dt29
  refine Jv.ne_self (d := .tuple ((crn 399 (gT 399 (rep (L + 1)))).reverse.map Jv.pairD)) (dt26.same ((s27.trans s28).trans s29)) dt29' (shaped_prs _) ?_
  walk_at "r"
  refine ⟨.int L, .int 1, .non, .int 1, rfl, .int 1, .good hL (.dv .non) rE rfl fun q e q1 H30 s30 => ?_⟩
  obtain rfl : q = 1 := by have := V.int.inj e; omega
  walk_at "r"
  refine ⟨.int L, .non, .non, .int 0, rfl, ⟨.int L, .none, .none, .int 0, .int _, .dv .non, .non, .int _, .inr ⟨L, rfl, by omega, .inr ⟨_, rE, .inr ⟨L + 1, .inl ⟨rfl, rfl⟩, .inr ⟨0, rfl, by omega, fun H31 s31 => ?_⟩⟩⟩⟩⟩⟩
  rw [told_one (M := 399) rE.ne (by rw [rl]; exact tc_far hL) (by rw [rl]; omega)]
  walk_at "r"
  rw [decide_eq_true (rfl : V.int (gT 399 (rep (L + 1)) 1 : Nat) = V.int (gT 399 (rep (L + 1)) 1 : Nat))]
  have s2531 := (((((s26.trans s27).trans s28).trans s29).trans s30).trans s31)
  replace g := g.kp (Jv.Kp.same s2531)
  have h31 := h25.same s2531
  have hP31 := s2531 _ _ hP25
  clear h25 hP25 s2531 s26 s27 s28 s29 s30 s31 dt26 dt29 dt29' hc28 hl28 dv28 ha27 na27
  walk_at "r"
  refine Jv.lcFn (n := 9) (fun PP hP => by walk_at "r"; exact hP) rfl (fun _ => .bl true) (by decide) (fun i H32 hi s32 PP hP => by walk_at "r"; exact hP _ (Same.refl _)) (fun D32 H32 s32 hD32 e32 => ?_)
  walk_at "r"
  refine ⟨D32, rep 9, rfl, e32, by simp [rep], fun v33 H33 s33 dv33 => ?_⟩
  have h33 := h31.same (s32.trans s33)
  have d33 : Jv.Dv K (Jv.hide [h] H33) v33 (.list (lawD (rep 9))) := by
    rw [lawD_eq] at dv33 ⊢
    exact lines_hide h33 dv33
  replace g := g.kp (Jv.Kp.same (s32.trans s33))
  have hP33 := s33 _ _ (s32 _ _ hP31)
  clear h31 hP31 s32 s33 e32 hD32 dv33
  walk_at "r"
  refine ⟨6, rfl, by decide, by decide, ?_⟩
  refine for_range (lo := 0) (n := ((6 : Int)).toNat) (fun i σ H' => ∃ y8 y11 y15 y16, σ = [some (.ref sc), some (.ref h), some (.int L), some ve, some (.ref a), some (.ref ln), some (.ref c), some (.ref t), y8, y9, some (.ref D24), y11, y12, y13, some v33, y15, y16, none] ∧ Jv.Kp h H33 H' ∧ Jv.Hand H' h hl)
    ⟨_, _, _, _, rfl, Jv.Kp.refl, h33⟩ ?_ ?_
  · rintro i σ H34 hi ⟨y8, y11, y15, y16, rfl, k34, h34⟩
    walk_at "r"
    unfold tPar
    walk_at "r"
    refine dr h34 (by decide) (by decide) fun u1 H35 u10 u11 k35 h35 => ?_
    walk_at "r"
    refine dr h35 (by decide) (by decide) fun u2 H36 u20 u21 k36 h36 => ?_
    obtain ⟨p, hp⟩ : ∃ p : Nat, 1 + u1 = (p : Int) := ⟨(1 + u1).toNat, by omega⟩
    obtain ⟨q, hq⟩ : ∃ q : Nat, 1 + u2 = (q : Int) := ⟨(1 + u2).toNat, by omega⟩
    have d36 := ((d33.same k34.hide).same k35.hide).same k36.hide
    walk_at "r"
    rw [hp, hq]
    refine ⟨_, _, rfl, ?_⟩
    walk_at "r"
    refine ⟨_, _, .int p, .int q, rfl, .int _, .int _, .inr ⟨p, q, rfl, rfl, by omega, by omega, by omega, by omega, fun n H37 n8 gn lt s37 => ?_⟩⟩
    walk_at "r"
    refine ⟨_, rfl, ?_⟩
    walk_at "r"
    refine ⟨v33, p, q, rfl, (d36.same (Jv.hide_same s37)).same Jv.hide_le, by omega, by omega, by omega, by omega, fun n' n8' gn' lt' => ?_⟩
    obtain rfl : n = n' := by
      rcases Nat.lt_trichotomy n n' with z | z | z
      · have := lt' n z; omega
      · exact z
      · have := lt n' z; omega
    walk_at "r"
    rw [decide_eq_true (rfl : V.int (n : Nat) = V.int (n : Nat))]
    walk_at "r"
    exact ⟨_, _, _, _, rfl, ((k34.trans k35).trans k36).trans (Jv.Kp.same s37), h36.same s37⟩
  rintro σ H34 ⟨y8, y11, y15, y16, rfl, k34, h34⟩
  walk_at "r"
  exact ⟨h, hl, L, ve, de, A, rfl, h34, hL, g.he.same k34.hide, hA, k34 _ _ nPh hP33, nPh, fin⟩
end
end K39

namespace K39
open PySem PySem.Spec PyProof.Rows L2
theorem all_mk {l : PySem.W.OpenLaw} {w : World} {fa : Addr} {K : PySem.W.Frag} {h : Heap} {mg : Str → Option Value} (X : K.In h) (G : h.Ns mainGlobals mg) (hfa : mg "law" = some (.ref fa)) (own : ∀ f2, mg "_law_right_refusals" = some (.ref f2) → LamX.OwnTab K f2 h)
  {cc_Lright_refusals P_Lright_refusals : Addr} {cdd_Lright_refusals : Option Addr} {cvs_Lright_refusals : Array Value} {csl_Lright_refusals : Array (Option Value)} {cf_Lright_refusals : Str} {cft_Lright_refusals cgt_Lright_refusals ctt_Lright_refusals : Tok} {cg_Lright_refusals cx_Lright_refusals : Int} {ci_Lright_refusals : Bool}
  {C_CallError : Addr}
  {C_BadLadder : Addr}
  {C_BadKinds : Addr}
  {C_BadEnds : Addr}
  {C_BadEnd : Addr}
  {C_BadWords : Addr}
  {f_is_whole : Addr} {od_is_whole an_is_whole : Option Addr} {sl_is_whole : Array (Option Value)} {oc_is_whole kV_is_whole dc_is_whole pm_is_whole cd_is_whole ct_is_whole : Value}
  {q_is_whole : Addr} {qc_is_whole : Value} {qd_is_whole : Option Addr} {qs_is_whole : Array (Option Value)} {qn_is_whole : Nat}
  {f_is_sequence : Addr} {od_is_sequence an_is_sequence : Option Addr} {sl_is_sequence : Array (Option Value)} {oc_is_sequence kV_is_sequence dc_is_sequence pm_is_sequence cd_is_sequence ct_is_sequence : Value}
  {f_check_ladder : Addr} {od_check_ladder an_check_ladder : Option Addr} {sl_check_ladder : Array (Option Value)} {oc_check_ladder kV_check_ladder dc_check_ladder pm_check_ladder cd_check_ladder ct_check_ladder : Value}
  {q_check_ladder : Addr} {qc_check_ladder : Value} {qd_check_ladder : Option Addr} {qs_check_ladder : Array (Option Value)} {qn_check_ladder : Nat}
  {qt0_check_ladder : Tok}
  {f_allowed_ends : Addr} {od_allowed_ends an_allowed_ends : Option Addr} {sl_allowed_ends : Array (Option Value)} {oc_allowed_ends kV_allowed_ends dc_allowed_ends pm_allowed_ends cd_allowed_ends ct_allowed_ends : Value}
  {f_words_left : Addr} {od_words_left an_words_left : Option Addr} {sl_words_left : Array (Option Value)} {oc_words_left kV_words_left dc_words_left pm_words_left cd_words_left ct_words_left : Value}
  {f_counts_by_words : Addr} {od_counts_by_words an_counts_by_words : Option Addr} {sl_counts_by_words : Array (Option Value)} {oc_counts_by_words kV_counts_by_words dc_counts_by_words pm_counts_by_words cd_counts_by_words ct_counts_by_words : Value}
  {f_split_at : Addr} {od_split_at an_split_at : Option Addr} {sl_split_at : Array (Option Value)} {oc_split_at kV_split_at dc_split_at pm_split_at cd_split_at ct_split_at : Value}
  {f_told_split : Addr} {od_told_split an_told_split : Option Addr} {sl_told_split : Array (Option Value)} {oc_told_split dc_told_split pm_told_split cd_told_split ct_told_split : Value}
  {qk_told_split : Addr}
  {qkt2_told_split : Tok}
  {f_told_within : Addr} {od_told_within an_told_within : Option Addr} {sl_told_within : Array (Option Value)} {oc_told_within dc_told_within pm_told_within cd_told_within ct_told_within : Value}
  {qk_told_within : Addr}
  {qkt2_told_within : Tok}
  {f_told_count : Addr} {od_told_count an_told_count : Option Addr} {sl_told_count : Array (Option Value)} {oc_told_count kV_told_count dc_told_count pm_told_count cd_told_count ct_told_count : Value}
  {f_greatest_answering : Addr} {od_greatest_answering an_greatest_answering : Option Addr} {sl_greatest_answering : Array (Option Value)} {oc_greatest_answering kV_greatest_answering dc_greatest_answering pm_greatest_answering cd_greatest_answering ct_greatest_answering : Value}
  {f_both_tables : Addr} {od_both_tables an_both_tables : Option Addr} {sl_both_tables : Array (Option Value)} {oc_both_tables kV_both_tables dc_both_tables pm_both_tables cd_both_tables ct_both_tables : Value}
  {f_splits_first : Addr} {od_splits_first an_splits_first : Option Addr} {sl_splits_first : Array (Option Value)} {oc_splits_first kV_splits_first dc_splits_first pm_splits_first cd_splits_first ct_splits_first : Value}
  {f_split_for : Addr} {od_split_for an_split_for : Option Addr} {sl_split_for : Array (Option Value)} {oc_split_for kV_split_for dc_split_for pm_split_for cd_split_for ct_split_for : Value}
  {f_check_numbers : Addr} {od_check_numbers an_check_numbers : Option Addr} {sl_check_numbers : Array (Option Value)} {oc_check_numbers kV_check_numbers dc_check_numbers pm_check_numbers cd_check_numbers ct_check_numbers : Value}
  {f_most_both : Addr} {od_most_both an_most_both : Option Addr} {sl_most_both : Array (Option Value)} {oc_most_both dc_most_both pm_most_both cd_most_both ct_most_both : Value}
  {qk_most_both : Addr}
  {f_both_split : Addr} {od_both_split an_both_split : Option Addr} {sl_both_split : Array (Option Value)} {oc_both_split dc_both_split pm_both_split cd_both_split ct_both_split : Value}
  {qk_both_split : Addr}
  {f_serves_both : Addr} {od_serves_both an_serves_both : Option Addr} {sl_serves_both : Array (Option Value)} {oc_serves_both dc_serves_both pm_serves_both cd_serves_both ct_serves_both : Value}
  {qk_serves_both : Addr}
  {f_staircase : Addr} {od_staircase an_staircase : Option Addr} {sl_staircase : Array (Option Value)} {oc_staircase dc_staircase pm_staircase cd_staircase ct_staircase : Value}
  {qk_staircase : Addr}
  {f_least_both : Addr} {od_least_both an_least_both : Option Addr} {sl_least_both : Array (Option Value)} {oc_least_both kV_least_both dc_least_both pm_least_both cd_least_both ct_least_both : Value}
  {f_Lmix : Addr} {od_Lmix an_Lmix : Option Addr} {sl_Lmix : Array (Option Value)} {oc_Lmix kV_Lmix dc_Lmix pm_Lmix cd_Lmix ct_Lmix : Value}
  {f_Lhand : Addr} {od_Lhand an_Lhand : Option Addr} {sl_Lhand : Array (Option Value)} {oc_Lhand kV_Lhand dc_Lhand pm_Lhand cd_Lhand ct_Lhand : Value}
  {f_Ldraw : Addr} {od_Ldraw an_Ldraw : Option Addr} {sl_Ldraw : Array (Option Value)} {oc_Ldraw kV_Ldraw dc_Ldraw pm_Ldraw cd_Ldraw ct_Ldraw : Value}
  {f_Lis_number : Addr} {od_Lis_number an_Lis_number : Option Addr} {sl_Lis_number : Array (Option Value)} {oc_Lis_number kV_Lis_number dc_Lis_number pm_Lis_number cd_Lis_number ct_Lis_number : Value}
  {f_Lnumbers : Addr} {od_Lnumbers an_Lnumbers : Option Addr} {sl_Lnumbers : Array (Option Value)} {oc_Lnumbers kV_Lnumbers dc_Lnumbers pm_Lnumbers cd_Lnumbers ct_Lnumbers : Value}
  {f_Lsome_ends : Addr} {od_Lsome_ends an_Lsome_ends : Option Addr} {sl_Lsome_ends : Array (Option Value)} {oc_Lsome_ends kV_Lsome_ends dc_Lsome_ends pm_Lsome_ends cd_Lsome_ends ct_Lsome_ends : Value}
  {f_Lallowed : Addr} {od_Lallowed an_Lallowed : Option Addr} {sl_Lallowed : Array (Option Value)} {oc_Lallowed kV_Lallowed dc_Lallowed pm_Lallowed cd_Lallowed ct_Lallowed : Value}
  {f_Lreach : Addr} {od_Lreach an_Lreach : Option Addr} {sl_Lreach : Array (Option Value)} {oc_Lreach kV_Lreach dc_Lreach pm_Lreach cd_Lreach ct_Lreach : Value}
  {f_Llines : Addr} {od_Llines an_Llines : Option Addr} {sl_Llines : Array (Option Value)} {oc_Llines kV_Llines dc_Llines pm_Llines cd_Llines ct_Llines : Value}
  {f_Lodd_ladder : Addr} {od_Lodd_ladder an_Lodd_ladder : Option Addr} {sl_Lodd_ladder : Array (Option Value)} {oc_Lodd_ladder kV_Lodd_ladder dc_Lodd_ladder pm_Lodd_ladder cd_Lodd_ladder ct_Lodd_ladder : Value}
  {f_Lodd_kinds : Addr} {od_Lodd_kinds an_Lodd_kinds : Option Addr} {sl_Lodd_kinds : Array (Option Value)} {oc_Lodd_kinds kV_Lodd_kinds dc_Lodd_kinds pm_Lodd_kinds cd_Lodd_kinds ct_Lodd_kinds : Value}
  {f_Lodd_ends : Addr} {od_Lodd_ends an_Lodd_ends : Option Addr} {sl_Lodd_ends : Array (Option Value)} {oc_Lodd_ends kV_Lodd_ends dc_Lodd_ends pm_Lodd_ends cd_Lodd_ends ct_Lodd_ends : Value}
  {f_Lrefused : Addr} {od_Lrefused an_Lrefused : Option Addr} {sl_Lrefused : Array (Option Value)} {oc_Lrefused kV_Lrefused dc_Lrefused pm_Lrefused cd_Lrefused ct_Lrefused : Value}
  {f_Lcorners : Addr} {od_Lcorners an_Lcorners : Option Addr} {sl_Lcorners : Array (Option Value)} {oc_Lcorners kV_Lcorners dc_Lcorners pm_Lcorners cd_Lcorners ct_Lcorners : Value}
  {f_Lparts : Addr} {od_Lparts an_Lparts : Option Addr} {sl_Lparts : Array (Option Value)} {oc_Lparts kV_Lparts dc_Lparts pm_Lparts cd_Lparts ct_Lparts : Value}
  {f_Lleast : Addr} {od_Lleast an_Lleast : Option Addr} {sl_Lleast : Array (Option Value)} {oc_Lleast kV_Lleast dc_Lleast pm_Lleast cd_Lleast ct_Lleast : Value}
  {f_Lright_number : Addr} {od_Lright_number an_Lright_number : Option Addr} {sl_Lright_number : Array (Option Value)} {oc_Lright_number kV_Lright_number dc_Lright_number pm_Lright_number cd_Lright_number ct_Lright_number : Value}
  {f_Lat_door : Addr} {od_Lat_door an_Lat_door : Option Addr} {sl_Lat_door : Array (Option Value)} {oc_Lat_door kV_Lat_door dc_Lat_door pm_Lat_door cd_Lat_door ct_Lat_door : Value}
  {f_Lright_refusals : Addr} {od_Lright_refusals an_Lright_refusals : Option Addr} {sl_Lright_refusals : Array (Option Value)} {oc_Lright_refusals kV_Lright_refusals dc_Lright_refusals pm_Lright_refusals ct_Lright_refusals : Value}
  {f_law : Addr} {od_law an_law : Option Addr} {sl_law : Array (Option Value)} {oc_law kV_law dc_law pm_law cd_law ct_law : Value}
  {t_LADDER_MOST : Tok}
  {t_TOLD_LADDER_MOST : Tok}
  {t_COUNT_LADDER_MOST : Tok}
  {t_BOTH_LADDER_MOST : Tok}
  {t_LEAST_BOTH_MOST : Tok}
  (a_CallError : PySem.W.nsIn K mainGlobals "CallError" = some (some (.ref C_CallError)))
  (a_BadLadder : PySem.W.nsIn K mainGlobals "BadLadder" = some (some (.ref C_BadLadder)))
  (a_BadKinds : PySem.W.nsIn K mainGlobals "BadKinds" = some (some (.ref C_BadKinds)))
  (a_BadEnds : PySem.W.nsIn K mainGlobals "BadEnds" = some (some (.ref C_BadEnds)))
  (a_BadEnd : PySem.W.nsIn K mainGlobals "BadEnd" = some (some (.ref C_BadEnd)))
  (a_BadWords : PySem.W.nsIn K mainGlobals "BadWords" = some (some (.ref C_BadWords)))
  (a_is_whole : PySem.W.nsIn K mainGlobals "is_whole" = some (some (.ref f_is_whole)))
  (l_is_whole : K.lookup f_is_whole = some ⟨oc_is_whole, od_is_whole, .func (PySem.W.fnOf "is_whole" "is_whole" (defArgs s_is_whole) (defBody s_is_whole) (defScope s_is_whole) (.ref q_is_whole) kV_is_whole dc_is_whole pm_is_whole an_is_whole cd_is_whole ct_is_whole), sl_is_whole⟩)
  (c_is_whole : PySem.W.codeIn K cd_is_whole "is_whole" = true)
  (k_is_whole : PySem.W.keepIn K (.ref f_is_whole) = true)
  (t_is_whole : K.lookup q_is_whole = some ⟨qc_is_whole, qd_is_whole, .seq #[Value.none, Value.none] qn_is_whole, qs_is_whole⟩)
  (a_is_sequence : PySem.W.nsIn K mainGlobals "is_sequence" = some (some (.ref f_is_sequence)))
  (l_is_sequence : K.lookup f_is_sequence = some ⟨oc_is_sequence, od_is_sequence, .func (PySem.W.fnOf "is_sequence" "is_sequence" (defArgs s_is_sequence) (defBody s_is_sequence) (defScope s_is_sequence) .none kV_is_sequence dc_is_sequence pm_is_sequence an_is_sequence cd_is_sequence ct_is_sequence), sl_is_sequence⟩)
  (c_is_sequence : PySem.W.codeIn K cd_is_sequence "is_sequence" = true)
  (k_is_sequence : PySem.W.keepIn K (.ref f_is_sequence) = true)
  (a_check_ladder : PySem.W.nsIn K mainGlobals "check_ladder" = some (some (.ref f_check_ladder)))
  (l_check_ladder : K.lookup f_check_ladder = some ⟨oc_check_ladder, od_check_ladder, .func (PySem.W.fnOf "check_ladder" "check_ladder" (defArgs s_check_ladder) (defBody s_check_ladder) (defScope s_check_ladder) (.ref q_check_ladder) kV_check_ladder dc_check_ladder pm_check_ladder an_check_ladder cd_check_ladder ct_check_ladder), sl_check_ladder⟩)
  (c_check_ladder : PySem.W.codeIn K cd_check_ladder "check_ladder" = true)
  (k_check_ladder : PySem.W.keepIn K (.ref f_check_ladder) = true)
  (t_check_ladder : K.lookup q_check_ladder = some ⟨qc_check_ladder, qd_check_ladder, .seq #[Value.int (6) qt0_check_ladder] qn_check_ladder, qs_check_ladder⟩)
  (a_allowed_ends : PySem.W.nsIn K mainGlobals "allowed_ends" = some (some (.ref f_allowed_ends)))
  (l_allowed_ends : K.lookup f_allowed_ends = some ⟨oc_allowed_ends, od_allowed_ends, .func (PySem.W.fnOf "allowed_ends" "allowed_ends" (defArgs s_allowed_ends) (defBody s_allowed_ends) (defScope s_allowed_ends) .none kV_allowed_ends dc_allowed_ends pm_allowed_ends an_allowed_ends cd_allowed_ends ct_allowed_ends), sl_allowed_ends⟩)
  (c_allowed_ends : PySem.W.codeIn K cd_allowed_ends "allowed_ends" = true)
  (k_allowed_ends : PySem.W.keepIn K (.ref f_allowed_ends) = true)
  (a_words_left : PySem.W.nsIn K mainGlobals "words_left" = some (some (.ref f_words_left)))
  (l_words_left : K.lookup f_words_left = some ⟨oc_words_left, od_words_left, .func (PySem.W.fnOf "words_left" "words_left" (defArgs s_words_left) (defBody s_words_left) (defScope s_words_left) .none kV_words_left dc_words_left pm_words_left an_words_left cd_words_left ct_words_left), sl_words_left⟩)
  (c_words_left : PySem.W.codeIn K cd_words_left "words_left" = true)
  (k_words_left : PySem.W.keepIn K (.ref f_words_left) = true)
  (a_counts_by_words : PySem.W.nsIn K mainGlobals "counts_by_words" = some (some (.ref f_counts_by_words)))
  (l_counts_by_words : K.lookup f_counts_by_words = some ⟨oc_counts_by_words, od_counts_by_words, .func (PySem.W.fnOf "counts_by_words" "counts_by_words" (defArgs s_counts_by_words) (defBody s_counts_by_words) (defScope s_counts_by_words) .none kV_counts_by_words dc_counts_by_words pm_counts_by_words an_counts_by_words cd_counts_by_words ct_counts_by_words), sl_counts_by_words⟩)
  (c_counts_by_words : PySem.W.codeIn K cd_counts_by_words "counts_by_words" = true)
  (k_counts_by_words : PySem.W.keepIn K (.ref f_counts_by_words) = true)
  (a_split_at : PySem.W.nsIn K mainGlobals "split_at" = some (some (.ref f_split_at)))
  (l_split_at : K.lookup f_split_at = some ⟨oc_split_at, od_split_at, .func (PySem.W.fnOf "split_at" "split_at" (defArgs s_split_at) (defBody s_split_at) (defScope s_split_at) .none kV_split_at dc_split_at pm_split_at an_split_at cd_split_at ct_split_at), sl_split_at⟩)
  (c_split_at : PySem.W.codeIn K cd_split_at "split_at" = true)
  (k_split_at : PySem.W.keepIn K (.ref f_split_at) = true)
  (a_told_split : PySem.W.nsIn K mainGlobals "told_split" = some (some (.ref f_told_split)))
  (l_told_split : K.lookup f_told_split = some ⟨oc_told_split, od_told_split, .func (PySem.W.fnOf "told_split" "told_split" (defArgs s_told_split) (defBody s_told_split) (defScope s_told_split) .none (.ref qk_told_split) dc_told_split pm_told_split an_told_split cd_told_split ct_told_split), sl_told_split⟩)
  (c_told_split : PySem.W.codeIn K cd_told_split "told_split" = true)
  (k_told_split : PySem.W.keepIn K (.ref f_told_split) = true)
  (kw0_told_split : PySem.W.nsIn K qk_told_split "ends" = some (some (.none)))
  (kw1_told_split : PySem.W.nsIn K qk_told_split "words" = some (some (.none)))
  (kw2_told_split : PySem.W.nsIn K qk_told_split "end" = some (some (.int (0) qkt2_told_split)))
  (a_told_within : PySem.W.nsIn K mainGlobals "told_within" = some (some (.ref f_told_within)))
  (l_told_within : K.lookup f_told_within = some ⟨oc_told_within, od_told_within, .func (PySem.W.fnOf "told_within" "told_within" (defArgs s_told_within) (defBody s_told_within) (defScope s_told_within) .none (.ref qk_told_within) dc_told_within pm_told_within an_told_within cd_told_within ct_told_within), sl_told_within⟩)
  (c_told_within : PySem.W.codeIn K cd_told_within "told_within" = true)
  (k_told_within : PySem.W.keepIn K (.ref f_told_within) = true)
  (kw0_told_within : PySem.W.nsIn K qk_told_within "ends" = some (some (.none)))
  (kw1_told_within : PySem.W.nsIn K qk_told_within "words" = some (some (.none)))
  (kw2_told_within : PySem.W.nsIn K qk_told_within "end" = some (some (.int (0) qkt2_told_within)))
  (a_told_count : PySem.W.nsIn K mainGlobals "told_count" = some (some (.ref f_told_count)))
  (l_told_count : K.lookup f_told_count = some ⟨oc_told_count, od_told_count, .func (PySem.W.fnOf "told_count" "told_count" (defArgs s_told_count) (defBody s_told_count) (defScope s_told_count) .none kV_told_count dc_told_count pm_told_count an_told_count cd_told_count ct_told_count), sl_told_count⟩)
  (c_told_count : PySem.W.codeIn K cd_told_count "told_count" = true)
  (k_told_count : PySem.W.keepIn K (.ref f_told_count) = true)
  (a_greatest_answering : PySem.W.nsIn K mainGlobals "greatest_answering" = some (some (.ref f_greatest_answering)))
  (l_greatest_answering : K.lookup f_greatest_answering = some ⟨oc_greatest_answering, od_greatest_answering, .func (PySem.W.fnOf "greatest_answering" "greatest_answering" (defArgs s_greatest_answering) (defBody s_greatest_answering) (defScope s_greatest_answering) .none kV_greatest_answering dc_greatest_answering pm_greatest_answering an_greatest_answering cd_greatest_answering ct_greatest_answering), sl_greatest_answering⟩)
  (c_greatest_answering : PySem.W.codeIn K cd_greatest_answering "greatest_answering" = true)
  (k_greatest_answering : PySem.W.keepIn K (.ref f_greatest_answering) = true)
  (a_both_tables : PySem.W.nsIn K mainGlobals "both_tables" = some (some (.ref f_both_tables)))
  (l_both_tables : K.lookup f_both_tables = some ⟨oc_both_tables, od_both_tables, .func (PySem.W.fnOf "both_tables" "both_tables" (defArgs s_both_tables) (defBody s_both_tables) (defScope s_both_tables) .none kV_both_tables dc_both_tables pm_both_tables an_both_tables cd_both_tables ct_both_tables), sl_both_tables⟩)
  (c_both_tables : PySem.W.codeIn K cd_both_tables "both_tables" = true)
  (k_both_tables : PySem.W.keepIn K (.ref f_both_tables) = true)
  (a_splits_first : PySem.W.nsIn K mainGlobals "splits_first" = some (some (.ref f_splits_first)))
  (l_splits_first : K.lookup f_splits_first = some ⟨oc_splits_first, od_splits_first, .func (PySem.W.fnOf "splits_first" "splits_first" (defArgs s_splits_first) (defBody s_splits_first) (defScope s_splits_first) .none kV_splits_first dc_splits_first pm_splits_first an_splits_first cd_splits_first ct_splits_first), sl_splits_first⟩)
  (c_splits_first : PySem.W.codeIn K cd_splits_first "splits_first" = true)
  (k_splits_first : PySem.W.keepIn K (.ref f_splits_first) = true)
  (a_split_for : PySem.W.nsIn K mainGlobals "split_for" = some (some (.ref f_split_for)))
  (l_split_for : K.lookup f_split_for = some ⟨oc_split_for, od_split_for, .func (PySem.W.fnOf "split_for" "split_for" (defArgs s_split_for) (defBody s_split_for) (defScope s_split_for) .none kV_split_for dc_split_for pm_split_for an_split_for cd_split_for ct_split_for), sl_split_for⟩)
  (c_split_for : PySem.W.codeIn K cd_split_for "split_for" = true)
  (k_split_for : PySem.W.keepIn K (.ref f_split_for) = true)
  (a_check_numbers : PySem.W.nsIn K mainGlobals "check_numbers" = some (some (.ref f_check_numbers)))
  (l_check_numbers : K.lookup f_check_numbers = some ⟨oc_check_numbers, od_check_numbers, .func (PySem.W.fnOf "check_numbers" "check_numbers" (defArgs s_check_numbers) (defBody s_check_numbers) (defScope s_check_numbers) .none kV_check_numbers dc_check_numbers pm_check_numbers an_check_numbers cd_check_numbers ct_check_numbers), sl_check_numbers⟩)
  (c_check_numbers : PySem.W.codeIn K cd_check_numbers "check_numbers" = true)
  (k_check_numbers : PySem.W.keepIn K (.ref f_check_numbers) = true)
  (a_most_both : PySem.W.nsIn K mainGlobals "most_both" = some (some (.ref f_most_both)))
  (l_most_both : K.lookup f_most_both = some ⟨oc_most_both, od_most_both, .func (PySem.W.fnOf "most_both" "most_both" (defArgs s_most_both) (defBody s_most_both) (defScope s_most_both) .none (.ref qk_most_both) dc_most_both pm_most_both an_most_both cd_most_both ct_most_both), sl_most_both⟩)
  (c_most_both : PySem.W.codeIn K cd_most_both "most_both" = true)
  (k_most_both : PySem.W.keepIn K (.ref f_most_both) = true)
  (kw0_most_both : PySem.W.nsIn K qk_most_both "ends" = some (some (.none)))
  (a_both_split : PySem.W.nsIn K mainGlobals "both_split" = some (some (.ref f_both_split)))
  (l_both_split : K.lookup f_both_split = some ⟨oc_both_split, od_both_split, .func (PySem.W.fnOf "both_split" "both_split" (defArgs s_both_split) (defBody s_both_split) (defScope s_both_split) .none (.ref qk_both_split) dc_both_split pm_both_split an_both_split cd_both_split ct_both_split), sl_both_split⟩)
  (c_both_split : PySem.W.codeIn K cd_both_split "both_split" = true)
  (k_both_split : PySem.W.keepIn K (.ref f_both_split) = true)
  (kw0_both_split : PySem.W.nsIn K qk_both_split "ends" = some (some (.none)))
  (a_serves_both : PySem.W.nsIn K mainGlobals "serves_both" = some (some (.ref f_serves_both)))
  (l_serves_both : K.lookup f_serves_both = some ⟨oc_serves_both, od_serves_both, .func (PySem.W.fnOf "serves_both" "serves_both" (defArgs s_serves_both) (defBody s_serves_both) (defScope s_serves_both) .none (.ref qk_serves_both) dc_serves_both pm_serves_both an_serves_both cd_serves_both ct_serves_both), sl_serves_both⟩)
  (c_serves_both : PySem.W.codeIn K cd_serves_both "serves_both" = true)
  (k_serves_both : PySem.W.keepIn K (.ref f_serves_both) = true)
  (kw0_serves_both : PySem.W.nsIn K qk_serves_both "ends" = some (some (.none)))
  (a_staircase : PySem.W.nsIn K mainGlobals "staircase" = some (some (.ref f_staircase)))
  (l_staircase : K.lookup f_staircase = some ⟨oc_staircase, od_staircase, .func (PySem.W.fnOf "staircase" "staircase" (defArgs s_staircase) (defBody s_staircase) (defScope s_staircase) .none (.ref qk_staircase) dc_staircase pm_staircase an_staircase cd_staircase ct_staircase), sl_staircase⟩)
  (c_staircase : PySem.W.codeIn K cd_staircase "staircase" = true)
  (k_staircase : PySem.W.keepIn K (.ref f_staircase) = true)
  (kw0_staircase : PySem.W.nsIn K qk_staircase "ends" = some (some (.none)))
  (a_least_both : PySem.W.nsIn K mainGlobals "least_both" = some (some (.ref f_least_both)))
  (l_least_both : K.lookup f_least_both = some ⟨oc_least_both, od_least_both, .func (PySem.W.fnOf "least_both" "least_both" (defArgs s_least_both) (defBody s_least_both) (defScope s_least_both) .none kV_least_both dc_least_both pm_least_both an_least_both cd_least_both ct_least_both), sl_least_both⟩)
  (c_least_both : PySem.W.codeIn K cd_least_both "least_both" = true)
  (k_least_both : PySem.W.keepIn K (.ref f_least_both) = true)
  (a_Lmix : PySem.W.nsIn K mainGlobals "_law_mix" = some (some (.ref f_Lmix)))
  (l_Lmix : K.lookup f_Lmix = some ⟨oc_Lmix, od_Lmix, .func (PySem.W.fnOf "_law_mix" "_law_mix" (defArgs s_Lmix) (defBody s_Lmix) (defScope s_Lmix) .none kV_Lmix dc_Lmix pm_Lmix an_Lmix cd_Lmix ct_Lmix), sl_Lmix⟩)
  (c_Lmix : PySem.W.codeIn K cd_Lmix "_law_mix" = true)
  (k_Lmix : PySem.W.keepIn K (.ref f_Lmix) = true)
  (a_Lhand : PySem.W.nsIn K mainGlobals "_law_hand" = some (some (.ref f_Lhand)))
  (l_Lhand : K.lookup f_Lhand = some ⟨oc_Lhand, od_Lhand, .func (PySem.W.fnOf "_law_hand" "_law_hand" (defArgs s_Lhand) (defBody s_Lhand) (defScope s_Lhand) .none kV_Lhand dc_Lhand pm_Lhand an_Lhand cd_Lhand ct_Lhand), sl_Lhand⟩)
  (c_Lhand : PySem.W.codeIn K cd_Lhand "_law_hand" = true)
  (k_Lhand : PySem.W.keepIn K (.ref f_Lhand) = true)
  (a_Ldraw : PySem.W.nsIn K mainGlobals "_law_draw" = some (some (.ref f_Ldraw)))
  (l_Ldraw : K.lookup f_Ldraw = some ⟨oc_Ldraw, od_Ldraw, .func (PySem.W.fnOf "_law_draw" "_law_draw" (defArgs s_Ldraw) (defBody s_Ldraw) (defScope s_Ldraw) .none kV_Ldraw dc_Ldraw pm_Ldraw an_Ldraw cd_Ldraw ct_Ldraw), sl_Ldraw⟩)
  (c_Ldraw : PySem.W.codeIn K cd_Ldraw "_law_draw" = true)
  (k_Ldraw : PySem.W.keepIn K (.ref f_Ldraw) = true)
  (a_Lis_number : PySem.W.nsIn K mainGlobals "_law_is_number" = some (some (.ref f_Lis_number)))
  (l_Lis_number : K.lookup f_Lis_number = some ⟨oc_Lis_number, od_Lis_number, .func (PySem.W.fnOf "_law_is_number" "_law_is_number" (defArgs s_Lis_number) (defBody s_Lis_number) (defScope s_Lis_number) .none kV_Lis_number dc_Lis_number pm_Lis_number an_Lis_number cd_Lis_number ct_Lis_number), sl_Lis_number⟩)
  (c_Lis_number : PySem.W.codeIn K cd_Lis_number "_law_is_number" = true)
  (k_Lis_number : PySem.W.keepIn K (.ref f_Lis_number) = true)
  (a_Lnumbers : PySem.W.nsIn K mainGlobals "_law_numbers" = some (some (.ref f_Lnumbers)))
  (l_Lnumbers : K.lookup f_Lnumbers = some ⟨oc_Lnumbers, od_Lnumbers, .func (PySem.W.fnOf "_law_numbers" "_law_numbers" (defArgs s_Lnumbers) (defBody s_Lnumbers) (defScope s_Lnumbers) .none kV_Lnumbers dc_Lnumbers pm_Lnumbers an_Lnumbers cd_Lnumbers ct_Lnumbers), sl_Lnumbers⟩)
  (c_Lnumbers : PySem.W.codeIn K cd_Lnumbers "_law_numbers" = true)
  (k_Lnumbers : PySem.W.keepIn K (.ref f_Lnumbers) = true)
  (a_Lsome_ends : PySem.W.nsIn K mainGlobals "_law_some_ends" = some (some (.ref f_Lsome_ends)))
  (l_Lsome_ends : K.lookup f_Lsome_ends = some ⟨oc_Lsome_ends, od_Lsome_ends, .func (PySem.W.fnOf "_law_some_ends" "_law_some_ends" (defArgs s_Lsome_ends) (defBody s_Lsome_ends) (defScope s_Lsome_ends) .none kV_Lsome_ends dc_Lsome_ends pm_Lsome_ends an_Lsome_ends cd_Lsome_ends ct_Lsome_ends), sl_Lsome_ends⟩)
  (c_Lsome_ends : PySem.W.codeIn K cd_Lsome_ends "_law_some_ends" = true)
  (k_Lsome_ends : PySem.W.keepIn K (.ref f_Lsome_ends) = true)
  (a_Lallowed : PySem.W.nsIn K mainGlobals "_law_allowed" = some (some (.ref f_Lallowed)))
  (l_Lallowed : K.lookup f_Lallowed = some ⟨oc_Lallowed, od_Lallowed, .func (PySem.W.fnOf "_law_allowed" "_law_allowed" (defArgs s_Lallowed) (defBody s_Lallowed) (defScope s_Lallowed) .none kV_Lallowed dc_Lallowed pm_Lallowed an_Lallowed cd_Lallowed ct_Lallowed), sl_Lallowed⟩)
  (c_Lallowed : PySem.W.codeIn K cd_Lallowed "_law_allowed" = true)
  (k_Lallowed : PySem.W.keepIn K (.ref f_Lallowed) = true)
  (a_Lreach : PySem.W.nsIn K mainGlobals "_law_reach" = some (some (.ref f_Lreach)))
  (l_Lreach : K.lookup f_Lreach = some ⟨oc_Lreach, od_Lreach, .func (PySem.W.fnOf "_law_reach" "_law_reach" (defArgs s_Lreach) (defBody s_Lreach) (defScope s_Lreach) .none kV_Lreach dc_Lreach pm_Lreach an_Lreach cd_Lreach ct_Lreach), sl_Lreach⟩)
  (c_Lreach : PySem.W.codeIn K cd_Lreach "_law_reach" = true)
  (k_Lreach : PySem.W.keepIn K (.ref f_Lreach) = true)
  (a_Llines : PySem.W.nsIn K mainGlobals "_law_lines" = some (some (.ref f_Llines)))
  (l_Llines : K.lookup f_Llines = some ⟨oc_Llines, od_Llines, .func (PySem.W.fnOf "_law_lines" "_law_lines" (defArgs s_Llines) (defBody s_Llines) (defScope s_Llines) .none kV_Llines dc_Llines pm_Llines an_Llines cd_Llines ct_Llines), sl_Llines⟩)
  (c_Llines : PySem.W.codeIn K cd_Llines "_law_lines" = true)
  (k_Llines : PySem.W.keepIn K (.ref f_Llines) = true)
  (a_Lodd_ladder : PySem.W.nsIn K mainGlobals "_law_odd_ladder" = some (some (.ref f_Lodd_ladder)))
  (l_Lodd_ladder : K.lookup f_Lodd_ladder = some ⟨oc_Lodd_ladder, od_Lodd_ladder, .func (PySem.W.fnOf "_law_odd_ladder" "_law_odd_ladder" (defArgs s_Lodd_ladder) (defBody s_Lodd_ladder) (defScope s_Lodd_ladder) .none kV_Lodd_ladder dc_Lodd_ladder pm_Lodd_ladder an_Lodd_ladder cd_Lodd_ladder ct_Lodd_ladder), sl_Lodd_ladder⟩)
  (c_Lodd_ladder : PySem.W.codeIn K cd_Lodd_ladder "_law_odd_ladder" = true)
  (k_Lodd_ladder : PySem.W.keepIn K (.ref f_Lodd_ladder) = true)
  (a_Lodd_kinds : PySem.W.nsIn K mainGlobals "_law_odd_kinds" = some (some (.ref f_Lodd_kinds)))
  (l_Lodd_kinds : K.lookup f_Lodd_kinds = some ⟨oc_Lodd_kinds, od_Lodd_kinds, .func (PySem.W.fnOf "_law_odd_kinds" "_law_odd_kinds" (defArgs s_Lodd_kinds) (defBody s_Lodd_kinds) (defScope s_Lodd_kinds) .none kV_Lodd_kinds dc_Lodd_kinds pm_Lodd_kinds an_Lodd_kinds cd_Lodd_kinds ct_Lodd_kinds), sl_Lodd_kinds⟩)
  (c_Lodd_kinds : PySem.W.codeIn K cd_Lodd_kinds "_law_odd_kinds" = true)
  (k_Lodd_kinds : PySem.W.keepIn K (.ref f_Lodd_kinds) = true)
  (a_Lodd_ends : PySem.W.nsIn K mainGlobals "_law_odd_ends" = some (some (.ref f_Lodd_ends)))
  (l_Lodd_ends : K.lookup f_Lodd_ends = some ⟨oc_Lodd_ends, od_Lodd_ends, .func (PySem.W.fnOf "_law_odd_ends" "_law_odd_ends" (defArgs s_Lodd_ends) (defBody s_Lodd_ends) (defScope s_Lodd_ends) .none kV_Lodd_ends dc_Lodd_ends pm_Lodd_ends an_Lodd_ends cd_Lodd_ends ct_Lodd_ends), sl_Lodd_ends⟩)
  (c_Lodd_ends : PySem.W.codeIn K cd_Lodd_ends "_law_odd_ends" = true)
  (k_Lodd_ends : PySem.W.keepIn K (.ref f_Lodd_ends) = true)
  (a_Lrefused : PySem.W.nsIn K mainGlobals "_law_refused" = some (some (.ref f_Lrefused)))
  (l_Lrefused : K.lookup f_Lrefused = some ⟨oc_Lrefused, od_Lrefused, .func (PySem.W.fnOf "_law_refused" "_law_refused" (defArgs s_Lrefused) (defBody s_Lrefused) (defScope s_Lrefused) .none kV_Lrefused dc_Lrefused pm_Lrefused an_Lrefused cd_Lrefused ct_Lrefused), sl_Lrefused⟩)
  (c_Lrefused : PySem.W.codeIn K cd_Lrefused "_law_refused" = true)
  (k_Lrefused : PySem.W.keepIn K (.ref f_Lrefused) = true)
  (a_Lcorners : PySem.W.nsIn K mainGlobals "_law_corners" = some (some (.ref f_Lcorners)))
  (l_Lcorners : K.lookup f_Lcorners = some ⟨oc_Lcorners, od_Lcorners, .func (PySem.W.fnOf "_law_corners" "_law_corners" (defArgs s_Lcorners) (defBody s_Lcorners) (defScope s_Lcorners) .none kV_Lcorners dc_Lcorners pm_Lcorners an_Lcorners cd_Lcorners ct_Lcorners), sl_Lcorners⟩)
  (c_Lcorners : PySem.W.codeIn K cd_Lcorners "_law_corners" = true)
  (k_Lcorners : PySem.W.keepIn K (.ref f_Lcorners) = true)
  (a_Lparts : PySem.W.nsIn K mainGlobals "_law_parts" = some (some (.ref f_Lparts)))
  (l_Lparts : K.lookup f_Lparts = some ⟨oc_Lparts, od_Lparts, .func (PySem.W.fnOf "_law_parts" "_law_parts" (defArgs s_Lparts) (defBody s_Lparts) (defScope s_Lparts) .none kV_Lparts dc_Lparts pm_Lparts an_Lparts cd_Lparts ct_Lparts), sl_Lparts⟩)
  (c_Lparts : PySem.W.codeIn K cd_Lparts "_law_parts" = true)
  (k_Lparts : PySem.W.keepIn K (.ref f_Lparts) = true)
  (a_Lleast : PySem.W.nsIn K mainGlobals "_law_least" = some (some (.ref f_Lleast)))
  (l_Lleast : K.lookup f_Lleast = some ⟨oc_Lleast, od_Lleast, .func (PySem.W.fnOf "_law_least" "_law_least" (defArgs s_Lleast) (defBody s_Lleast) (defScope s_Lleast) .none kV_Lleast dc_Lleast pm_Lleast an_Lleast cd_Lleast ct_Lleast), sl_Lleast⟩)
  (c_Lleast : PySem.W.codeIn K cd_Lleast "_law_least" = true)
  (k_Lleast : PySem.W.keepIn K (.ref f_Lleast) = true)
  (a_Lright_number : PySem.W.nsIn K mainGlobals "_law_right_number" = some (some (.ref f_Lright_number)))
  (l_Lright_number : K.lookup f_Lright_number = some ⟨oc_Lright_number, od_Lright_number, .func (PySem.W.fnOf "_law_right_number" "_law_right_number" (defArgs s_Lright_number) (defBody s_Lright_number) (defScope s_Lright_number) .none kV_Lright_number dc_Lright_number pm_Lright_number an_Lright_number cd_Lright_number ct_Lright_number), sl_Lright_number⟩)
  (c_Lright_number : PySem.W.codeIn K cd_Lright_number "_law_right_number" = true)
  (k_Lright_number : PySem.W.keepIn K (.ref f_Lright_number) = true)
  (a_Lat_door : PySem.W.nsIn K mainGlobals "_law_at_door" = some (some (.ref f_Lat_door)))
  (l_Lat_door : K.lookup f_Lat_door = some ⟨oc_Lat_door, od_Lat_door, .func (PySem.W.fnOf "_law_at_door" "_law_at_door" (defArgs s_Lat_door) (defBody s_Lat_door) (defScope s_Lat_door) .none kV_Lat_door dc_Lat_door pm_Lat_door an_Lat_door cd_Lat_door ct_Lat_door), sl_Lat_door⟩)
  (c_Lat_door : PySem.W.codeIn K cd_Lat_door "_law_at_door" = true)
  (k_Lat_door : PySem.W.keepIn K (.ref f_Lat_door) = true)
  (a_Lright_refusals : PySem.W.nsIn K mainGlobals "_law_right_refusals" = some (some (.ref f_Lright_refusals)))
  (l_Lright_refusals : K.lookup f_Lright_refusals = some ⟨oc_Lright_refusals, od_Lright_refusals, .func (PySem.W.fnOf "_law_right_refusals" "_law_right_refusals" (defArgs s_Lright_refusals) (defBody s_Lright_refusals) (defScope s_Lright_refusals) .none kV_Lright_refusals dc_Lright_refusals pm_Lright_refusals an_Lright_refusals (.ref cc_Lright_refusals) ct_Lright_refusals), sl_Lright_refusals⟩)
  (c_Lright_refusals : PySem.W.codeIn K (.ref cc_Lright_refusals) "_law_right_refusals" = true)
  (k_Lright_refusals : PySem.W.keepIn K (.ref f_Lright_refusals) = true)
  (a_law : PySem.W.nsIn K mainGlobals "law" = some (some (.ref f_law)))
  (l_law : K.lookup f_law = some ⟨oc_law, od_law, .func (PySem.W.fnOf "law" "law" (defArgs s_law) (defBody s_law) (defScope s_law) .none kV_law dc_law pm_law an_law cd_law ct_law), sl_law⟩)
  (c_law : PySem.W.codeIn K cd_law "law" = true)
  (k_law : PySem.W.keepIn K (.ref f_law) = true)
  (k_CallError : PySem.W.keepIn K (.ref C_CallError) = true)
  (b_CallError : PySem.W.subIn K (.ref C_CallError) (.type "BaseException") = some true)
  (t_CallError : PySem.W.typeIn K (.ref C_CallError) = some (.type "type"))
  (i_CallError : PySem.W.isClsIn K C_CallError = true)
  (s_CallError : PySem.W.subIn K (.ref C_CallError) (.ref C_CallError) = some true)
  (x_CallError : PySem.W.excIn K C_CallError [.type "ValueError", .type "Exception", .type "BaseException", .type "object"] "ValueError.__new__" = true)
  (k_BadLadder : PySem.W.keepIn K (.ref C_BadLadder) = true)
  (b_BadLadder : PySem.W.subIn K (.ref C_BadLadder) (.type "BaseException") = some true)
  (t_BadLadder : PySem.W.typeIn K (.ref C_BadLadder) = some (.type "type"))
  (i_BadLadder : PySem.W.isClsIn K C_BadLadder = true)
  (s_BadLadder : PySem.W.subIn K (.ref C_BadLadder) (.ref C_BadLadder) = some true)
  (x_BadLadder : PySem.W.excIn K C_BadLadder [.type "ValueError", .type "Exception", .type "BaseException", .type "object"] "ValueError.__new__" = true)
  (u_BadKinds_BadLadder : PySem.W.subIn K (.ref C_BadKinds) (.ref C_BadLadder) = some false)
  (u_BadKinds_BadEnds : PySem.W.subIn K (.ref C_BadKinds) (.ref C_BadEnds) = some false)
  (k_BadKinds : PySem.W.keepIn K (.ref C_BadKinds) = true)
  (b_BadKinds : PySem.W.subIn K (.ref C_BadKinds) (.type "BaseException") = some true)
  (t_BadKinds : PySem.W.typeIn K (.ref C_BadKinds) = some (.type "type"))
  (i_BadKinds : PySem.W.isClsIn K C_BadKinds = true)
  (s_BadKinds : PySem.W.subIn K (.ref C_BadKinds) (.ref C_BadKinds) = some true)
  (x_BadKinds : PySem.W.excIn K C_BadKinds [.type "ValueError", .type "Exception", .type "BaseException", .type "object"] "ValueError.__new__" = true)
  (u_BadEnds_BadLadder : PySem.W.subIn K (.ref C_BadEnds) (.ref C_BadLadder) = some false)
  (k_BadEnds : PySem.W.keepIn K (.ref C_BadEnds) = true)
  (b_BadEnds : PySem.W.subIn K (.ref C_BadEnds) (.type "BaseException") = some true)
  (t_BadEnds : PySem.W.typeIn K (.ref C_BadEnds) = some (.type "type"))
  (i_BadEnds : PySem.W.isClsIn K C_BadEnds = true)
  (s_BadEnds : PySem.W.subIn K (.ref C_BadEnds) (.ref C_BadEnds) = some true)
  (x_BadEnds : PySem.W.excIn K C_BadEnds [.type "ValueError", .type "Exception", .type "BaseException", .type "object"] "ValueError.__new__" = true)
  (k_BadEnd : PySem.W.keepIn K (.ref C_BadEnd) = true)
  (b_BadEnd : PySem.W.subIn K (.ref C_BadEnd) (.type "BaseException") = some true)
  (t_BadEnd : PySem.W.typeIn K (.ref C_BadEnd) = some (.type "type"))
  (i_BadEnd : PySem.W.isClsIn K C_BadEnd = true)
  (s_BadEnd : PySem.W.subIn K (.ref C_BadEnd) (.ref C_BadEnd) = some true)
  (x_BadEnd : PySem.W.excIn K C_BadEnd [.type "ValueError", .type "Exception", .type "BaseException", .type "object"] "ValueError.__new__" = true)
  (k_BadWords : PySem.W.keepIn K (.ref C_BadWords) = true)
  (b_BadWords : PySem.W.subIn K (.ref C_BadWords) (.type "BaseException") = some true)
  (t_BadWords : PySem.W.typeIn K (.ref C_BadWords) = some (.type "type"))
  (i_BadWords : PySem.W.isClsIn K C_BadWords = true)
  (s_BadWords : PySem.W.subIn K (.ref C_BadWords) (.ref C_BadWords) = some true)
  (x_BadWords : PySem.W.excIn K C_BadWords [.type "ValueError", .type "Exception", .type "BaseException", .type "object"] "ValueError.__new__" = true)
  (z_ValueError : PySem.W.nsIn K mainGlobals "ValueError" = some none)
  (z_abs : PySem.W.nsIn K mainGlobals "abs" = some none)
  (z_all : PySem.W.nsIn K mainGlobals "all" = some none)
  (z_bool : PySem.W.nsIn K mainGlobals "bool" = some none)
  (z_enumerate : PySem.W.nsIn K mainGlobals "enumerate" = some none)
  (z_int : PySem.W.nsIn K mainGlobals "int" = some none)
  (z_isinstance : PySem.W.nsIn K mainGlobals "isinstance" = some none)
  (z_len : PySem.W.nsIn K mainGlobals "len" = some none)
  (z_list : PySem.W.nsIn K mainGlobals "list" = some none)
  (z_max : PySem.W.nsIn K mainGlobals "max" = some none)
  (z_min : PySem.W.nsIn K mainGlobals "min" = some none)
  (z_range : PySem.W.nsIn K mainGlobals "range" = some none)
  (z_sorted : PySem.W.nsIn K mainGlobals "sorted" = some none)
  (z_sum : PySem.W.nsIn K mainGlobals "sum" = some none)
  (z_tuple : PySem.W.nsIn K mainGlobals "tuple" = some none)
  (z_zip : PySem.W.nsIn K mainGlobals "zip" = some none)
  (c_LADDER_MOST : PySem.W.nsIn K mainGlobals "LADDER_MOST" = some (some (.int (6) t_LADDER_MOST)))
  (c_TOLD_LADDER_MOST : PySem.W.nsIn K mainGlobals "TOLD_LADDER_MOST" = some (some (.int (30) t_TOLD_LADDER_MOST)))
  (c_COUNT_LADDER_MOST : PySem.W.nsIn K mainGlobals "COUNT_LADDER_MOST" = some (some (.int (200) t_COUNT_LADDER_MOST)))
  (c_BOTH_LADDER_MOST : PySem.W.nsIn K mainGlobals "BOTH_LADDER_MOST" = some (some (.int (8) t_BOTH_LADDER_MOST)))
  (c_LEAST_BOTH_MOST : PySem.W.nsIn K mainGlobals "LEAST_BOTH_MOST" = some (some (.int (8) t_LEAST_BOTH_MOST)))
  (v_Lright_refusals : K.lookup cc_Lright_refusals = some ⟨.type "code", cdd_Lright_refusals, .fields cvs_Lright_refusals, csl_Lright_refusals⟩)
  (v11_Lright_refusals : cvs_Lright_refusals[11]? = some (.ref P_Lright_refusals))
  (w11_Lright_refusals : cvs_Lright_refusals.getD 11 .none = .ref P_Lright_refusals)
  (v18_Lright_refusals : cvs_Lright_refusals.getD 18 .none = .str cf_Lright_refusals cft_Lright_refusals)
  (v7_Lright_refusals : cvs_Lright_refusals.getD 7 .none = .int cg_Lright_refusals cgt_Lright_refusals)
  (v9_Lright_refusals : cvs_Lright_refusals.getD 9 .none = .bool ci_Lright_refusals)
  (v10_Lright_refusals : cvs_Lright_refusals.getD 10 .none = .int cx_Lright_refusals ctt_Lright_refusals)
  (nPC_Lright_refusals : cc_Lright_refusals ≠ P_Lright_refusals)
  (nP_Lright_refusals : K.lookup P_Lright_refusals = none) :
    LamX.LawAtS l w K CX0 14 63 "_law_script" mg fa h := by
  have e : f_law = fa := Value.ref.inj (Option.some.inj ((PySem.W.mg_of X G a_law).symm.trans hfa))
  subst e
  have F_is_whole : FunD K "is_whole" "is_whole" (defArgs s_is_whole) (defBody s_is_whole) (defScope s_is_whole) [.non, .non] [] f_is_whole (PySem.W.fnOf "is_whole" "is_whole" (defArgs s_is_whole) (defBody s_is_whole) (defScope s_is_whole) (.ref q_is_whole) kV_is_whole dc_is_whole pm_is_whole an_is_whole cd_is_whole ct_is_whole) := ⟨⟨oc_is_whole, od_is_whole, _, kV_is_whole, dc_is_whole, pm_is_whole, an_is_whole, cd_is_whole, ct_is_whole, sl_is_whole, rfl, l_is_whole, c_is_whole, .inr ⟨by simp, q_is_whole, _, [Value.none, Value.none], qn_is_whole, rfl, t_is_whole, rfl, (.cons rfl (.cons rfl .nil))⟩, .inl rfl⟩, k_is_whole⟩
  have F_is_sequence := fun_mk (st := s_is_sequence) l_is_sequence c_is_sequence k_is_sequence
  have F_check_ladder : FunD K "check_ladder" "check_ladder" (defArgs s_check_ladder) (defBody s_check_ladder) (defScope s_check_ladder) [(.int 6)] [] f_check_ladder (PySem.W.fnOf "check_ladder" "check_ladder" (defArgs s_check_ladder) (defBody s_check_ladder) (defScope s_check_ladder) (.ref q_check_ladder) kV_check_ladder dc_check_ladder pm_check_ladder an_check_ladder cd_check_ladder ct_check_ladder) := ⟨⟨oc_check_ladder, od_check_ladder, _, kV_check_ladder, dc_check_ladder, pm_check_ladder, an_check_ladder, cd_check_ladder, ct_check_ladder, sl_check_ladder, rfl, l_check_ladder, c_check_ladder, .inr ⟨by simp, q_check_ladder, _, [Value.int (6) qt0_check_ladder], qn_check_ladder, rfl, t_check_ladder, rfl, (.cons ⟨_, rfl⟩ .nil)⟩, .inl rfl⟩, k_check_ladder⟩
  have F_allowed_ends := fun_mk (st := s_allowed_ends) l_allowed_ends c_allowed_ends k_allowed_ends
  have F_words_left := fun_mk (st := s_words_left) l_words_left c_words_left k_words_left
  have F_counts_by_words := fun_mk (st := s_counts_by_words) l_counts_by_words c_counts_by_words k_counts_by_words
  have F_split_at := fun_mk (st := s_split_at) l_split_at c_split_at k_split_at
  have F_told_split := fun_mk (st := s_told_split) l_told_split c_told_split k_told_split
  have F_told_within := fun_mk (st := s_told_within) l_told_within c_told_within k_told_within
  have F_told_count := fun_mk (st := s_told_count) l_told_count c_told_count k_told_count
  have F_greatest_answering := fun_mk (st := s_greatest_answering) l_greatest_answering c_greatest_answering k_greatest_answering
  have F_both_tables := fun_mk (st := s_both_tables) l_both_tables c_both_tables k_both_tables
  have F_splits_first := fun_mk (st := s_splits_first) l_splits_first c_splits_first k_splits_first
  have F_split_for := fun_mk (st := s_split_for) l_split_for c_split_for k_split_for
  have F_check_numbers := fun_mk (st := s_check_numbers) l_check_numbers c_check_numbers k_check_numbers
  have F_most_both := fun_mk (st := s_most_both) l_most_both c_most_both k_most_both
  have F_both_split := fun_mk (st := s_both_split) l_both_split c_both_split k_both_split
  have F_serves_both := fun_mk (st := s_serves_both) l_serves_both c_serves_both k_serves_both
  have F_staircase := fun_mk (st := s_staircase) l_staircase c_staircase k_staircase
  have F_least_both := fun_mk (st := s_least_both) l_least_both c_least_both k_least_both
  have F_Lmix := fun_mk (st := s_Lmix) l_Lmix c_Lmix k_Lmix
  have F_Lhand := fun_mk (st := s_Lhand) l_Lhand c_Lhand k_Lhand
  have F_Ldraw := fun_mk (st := s_Ldraw) l_Ldraw c_Ldraw k_Ldraw
  have F_Lis_number := fun_mk (st := s_Lis_number) l_Lis_number c_Lis_number k_Lis_number
  have F_Lnumbers := fun_mk (st := s_Lnumbers) l_Lnumbers c_Lnumbers k_Lnumbers
  have F_Lsome_ends := fun_mk (st := s_Lsome_ends) l_Lsome_ends c_Lsome_ends k_Lsome_ends
  have F_Lallowed := fun_mk (st := s_Lallowed) l_Lallowed c_Lallowed k_Lallowed
  have F_Lreach := fun_mk (st := s_Lreach) l_Lreach c_Lreach k_Lreach
  have F_Llines := fun_mk (st := s_Llines) l_Llines c_Llines k_Llines
  have F_Lodd_ladder := fun_mk (st := s_Lodd_ladder) l_Lodd_ladder c_Lodd_ladder k_Lodd_ladder
  have F_Lodd_kinds := fun_mk (st := s_Lodd_kinds) l_Lodd_kinds c_Lodd_kinds k_Lodd_kinds
  have F_Lodd_ends := fun_mk (st := s_Lodd_ends) l_Lodd_ends c_Lodd_ends k_Lodd_ends
  have F_Lrefused := fun_mk (st := s_Lrefused) l_Lrefused c_Lrefused k_Lrefused
  have F_Lcorners := fun_mk (st := s_Lcorners) l_Lcorners c_Lcorners k_Lcorners
  have F_Lparts := fun_mk (st := s_Lparts) l_Lparts c_Lparts k_Lparts
  have F_Lleast := fun_mk (st := s_Lleast) l_Lleast c_Lleast k_Lleast
  have F_Lright_number := fun_mk (st := s_Lright_number) l_Lright_number c_Lright_number k_Lright_number
  have F_Lat_door := fun_mk (st := s_Lat_door) l_Lat_door c_Lat_door k_Lat_door
  have F_Lright_refusals := fun_mk (st := s_Lright_refusals) l_Lright_refusals c_Lright_refusals k_Lright_refusals
  have F_law := fun_mk (st := s_law) l_law c_law k_law
  let T : Tx := {
    f_is_whole := f_is_whole,
    d_is_whole := PySem.W.fnOf "is_whole" "is_whole" (defArgs s_is_whole) (defBody s_is_whole) (defScope s_is_whole) (.ref q_is_whole) kV_is_whole dc_is_whole pm_is_whole an_is_whole cd_is_whole ct_is_whole,
    e1_is_whole := [Value.none],
    e2_is_whole := [Value.none, Value.none],
    f_is_sequence := f_is_sequence,
    d_is_sequence := PySem.W.fnOf "is_sequence" "is_sequence" (defArgs s_is_sequence) (defBody s_is_sequence) (defScope s_is_sequence) .none kV_is_sequence dc_is_sequence pm_is_sequence an_is_sequence cd_is_sequence ct_is_sequence,
    f_check_ladder := f_check_ladder,
    d_check_ladder := PySem.W.fnOf "check_ladder" "check_ladder" (defArgs s_check_ladder) (defBody s_check_ladder) (defScope s_check_ladder) (.ref q_check_ladder) kV_check_ladder dc_check_ladder pm_check_ladder an_check_ladder cd_check_ladder ct_check_ladder,
    e1_check_ladder := [Value.int (6) qt0_check_ladder],
    f_allowed_ends := f_allowed_ends,
    d_allowed_ends := PySem.W.fnOf "allowed_ends" "allowed_ends" (defArgs s_allowed_ends) (defBody s_allowed_ends) (defScope s_allowed_ends) .none kV_allowed_ends dc_allowed_ends pm_allowed_ends an_allowed_ends cd_allowed_ends ct_allowed_ends,
    f_words_left := f_words_left,
    d_words_left := PySem.W.fnOf "words_left" "words_left" (defArgs s_words_left) (defBody s_words_left) (defScope s_words_left) .none kV_words_left dc_words_left pm_words_left an_words_left cd_words_left ct_words_left,
    f_counts_by_words := f_counts_by_words,
    d_counts_by_words := PySem.W.fnOf "counts_by_words" "counts_by_words" (defArgs s_counts_by_words) (defBody s_counts_by_words) (defScope s_counts_by_words) .none kV_counts_by_words dc_counts_by_words pm_counts_by_words an_counts_by_words cd_counts_by_words ct_counts_by_words,
    f_split_at := f_split_at,
    d_split_at := PySem.W.fnOf "split_at" "split_at" (defArgs s_split_at) (defBody s_split_at) (defScope s_split_at) .none kV_split_at dc_split_at pm_split_at an_split_at cd_split_at ct_split_at,
    f_told_split := f_told_split,
    d_told_split := PySem.W.fnOf "told_split" "told_split" (defArgs s_told_split) (defBody s_told_split) (defScope s_told_split) .none (.ref qk_told_split) dc_told_split pm_told_split an_told_split cd_told_split ct_told_split,
    e3_told_split := [.none, .none, .int (0) qkt2_told_split],
    f_told_within := f_told_within,
    d_told_within := PySem.W.fnOf "told_within" "told_within" (defArgs s_told_within) (defBody s_told_within) (defScope s_told_within) .none (.ref qk_told_within) dc_told_within pm_told_within an_told_within cd_told_within ct_told_within,
    e3_told_within := [.none, .none, .int (0) qkt2_told_within],
    f_told_count := f_told_count,
    d_told_count := PySem.W.fnOf "told_count" "told_count" (defArgs s_told_count) (defBody s_told_count) (defScope s_told_count) .none kV_told_count dc_told_count pm_told_count an_told_count cd_told_count ct_told_count,
    f_greatest_answering := f_greatest_answering,
    d_greatest_answering := PySem.W.fnOf "greatest_answering" "greatest_answering" (defArgs s_greatest_answering) (defBody s_greatest_answering) (defScope s_greatest_answering) .none kV_greatest_answering dc_greatest_answering pm_greatest_answering an_greatest_answering cd_greatest_answering ct_greatest_answering,
    f_both_tables := f_both_tables,
    d_both_tables := PySem.W.fnOf "both_tables" "both_tables" (defArgs s_both_tables) (defBody s_both_tables) (defScope s_both_tables) .none kV_both_tables dc_both_tables pm_both_tables an_both_tables cd_both_tables ct_both_tables,
    f_splits_first := f_splits_first,
    d_splits_first := PySem.W.fnOf "splits_first" "splits_first" (defArgs s_splits_first) (defBody s_splits_first) (defScope s_splits_first) .none kV_splits_first dc_splits_first pm_splits_first an_splits_first cd_splits_first ct_splits_first,
    f_split_for := f_split_for,
    d_split_for := PySem.W.fnOf "split_for" "split_for" (defArgs s_split_for) (defBody s_split_for) (defScope s_split_for) .none kV_split_for dc_split_for pm_split_for an_split_for cd_split_for ct_split_for,
    f_check_numbers := f_check_numbers,
    d_check_numbers := PySem.W.fnOf "check_numbers" "check_numbers" (defArgs s_check_numbers) (defBody s_check_numbers) (defScope s_check_numbers) .none kV_check_numbers dc_check_numbers pm_check_numbers an_check_numbers cd_check_numbers ct_check_numbers,
    f_most_both := f_most_both,
    d_most_both := PySem.W.fnOf "most_both" "most_both" (defArgs s_most_both) (defBody s_most_both) (defScope s_most_both) .none (.ref qk_most_both) dc_most_both pm_most_both an_most_both cd_most_both ct_most_both,
    e1_most_both := [.none],
    f_both_split := f_both_split,
    d_both_split := PySem.W.fnOf "both_split" "both_split" (defArgs s_both_split) (defBody s_both_split) (defScope s_both_split) .none (.ref qk_both_split) dc_both_split pm_both_split an_both_split cd_both_split ct_both_split,
    e1_both_split := [.none],
    f_serves_both := f_serves_both,
    d_serves_both := PySem.W.fnOf "serves_both" "serves_both" (defArgs s_serves_both) (defBody s_serves_both) (defScope s_serves_both) .none (.ref qk_serves_both) dc_serves_both pm_serves_both an_serves_both cd_serves_both ct_serves_both,
    e1_serves_both := [.none],
    f_staircase := f_staircase,
    d_staircase := PySem.W.fnOf "staircase" "staircase" (defArgs s_staircase) (defBody s_staircase) (defScope s_staircase) .none (.ref qk_staircase) dc_staircase pm_staircase an_staircase cd_staircase ct_staircase,
    e1_staircase := [.none],
    f_least_both := f_least_both,
    d_least_both := PySem.W.fnOf "least_both" "least_both" (defArgs s_least_both) (defBody s_least_both) (defScope s_least_both) .none kV_least_both dc_least_both pm_least_both an_least_both cd_least_both ct_least_both,
    f_Lmix := f_Lmix,
    d_Lmix := PySem.W.fnOf "_law_mix" "_law_mix" (defArgs s_Lmix) (defBody s_Lmix) (defScope s_Lmix) .none kV_Lmix dc_Lmix pm_Lmix an_Lmix cd_Lmix ct_Lmix,
    f_Lhand := f_Lhand,
    d_Lhand := PySem.W.fnOf "_law_hand" "_law_hand" (defArgs s_Lhand) (defBody s_Lhand) (defScope s_Lhand) .none kV_Lhand dc_Lhand pm_Lhand an_Lhand cd_Lhand ct_Lhand,
    f_Ldraw := f_Ldraw,
    d_Ldraw := PySem.W.fnOf "_law_draw" "_law_draw" (defArgs s_Ldraw) (defBody s_Ldraw) (defScope s_Ldraw) .none kV_Ldraw dc_Ldraw pm_Ldraw an_Ldraw cd_Ldraw ct_Ldraw,
    f_Lis_number := f_Lis_number,
    d_Lis_number := PySem.W.fnOf "_law_is_number" "_law_is_number" (defArgs s_Lis_number) (defBody s_Lis_number) (defScope s_Lis_number) .none kV_Lis_number dc_Lis_number pm_Lis_number an_Lis_number cd_Lis_number ct_Lis_number,
    f_Lnumbers := f_Lnumbers,
    d_Lnumbers := PySem.W.fnOf "_law_numbers" "_law_numbers" (defArgs s_Lnumbers) (defBody s_Lnumbers) (defScope s_Lnumbers) .none kV_Lnumbers dc_Lnumbers pm_Lnumbers an_Lnumbers cd_Lnumbers ct_Lnumbers,
    f_Lsome_ends := f_Lsome_ends,
    d_Lsome_ends := PySem.W.fnOf "_law_some_ends" "_law_some_ends" (defArgs s_Lsome_ends) (defBody s_Lsome_ends) (defScope s_Lsome_ends) .none kV_Lsome_ends dc_Lsome_ends pm_Lsome_ends an_Lsome_ends cd_Lsome_ends ct_Lsome_ends,
    f_Lallowed := f_Lallowed,
    d_Lallowed := PySem.W.fnOf "_law_allowed" "_law_allowed" (defArgs s_Lallowed) (defBody s_Lallowed) (defScope s_Lallowed) .none kV_Lallowed dc_Lallowed pm_Lallowed an_Lallowed cd_Lallowed ct_Lallowed,
    f_Lreach := f_Lreach,
    d_Lreach := PySem.W.fnOf "_law_reach" "_law_reach" (defArgs s_Lreach) (defBody s_Lreach) (defScope s_Lreach) .none kV_Lreach dc_Lreach pm_Lreach an_Lreach cd_Lreach ct_Lreach,
    f_Llines := f_Llines,
    d_Llines := PySem.W.fnOf "_law_lines" "_law_lines" (defArgs s_Llines) (defBody s_Llines) (defScope s_Llines) .none kV_Llines dc_Llines pm_Llines an_Llines cd_Llines ct_Llines,
    f_Lodd_ladder := f_Lodd_ladder,
    d_Lodd_ladder := PySem.W.fnOf "_law_odd_ladder" "_law_odd_ladder" (defArgs s_Lodd_ladder) (defBody s_Lodd_ladder) (defScope s_Lodd_ladder) .none kV_Lodd_ladder dc_Lodd_ladder pm_Lodd_ladder an_Lodd_ladder cd_Lodd_ladder ct_Lodd_ladder,
    f_Lodd_kinds := f_Lodd_kinds,
    d_Lodd_kinds := PySem.W.fnOf "_law_odd_kinds" "_law_odd_kinds" (defArgs s_Lodd_kinds) (defBody s_Lodd_kinds) (defScope s_Lodd_kinds) .none kV_Lodd_kinds dc_Lodd_kinds pm_Lodd_kinds an_Lodd_kinds cd_Lodd_kinds ct_Lodd_kinds,
    f_Lodd_ends := f_Lodd_ends,
    d_Lodd_ends := PySem.W.fnOf "_law_odd_ends" "_law_odd_ends" (defArgs s_Lodd_ends) (defBody s_Lodd_ends) (defScope s_Lodd_ends) .none kV_Lodd_ends dc_Lodd_ends pm_Lodd_ends an_Lodd_ends cd_Lodd_ends ct_Lodd_ends,
    f_Lrefused := f_Lrefused,
    d_Lrefused := PySem.W.fnOf "_law_refused" "_law_refused" (defArgs s_Lrefused) (defBody s_Lrefused) (defScope s_Lrefused) .none kV_Lrefused dc_Lrefused pm_Lrefused an_Lrefused cd_Lrefused ct_Lrefused,
    f_Lcorners := f_Lcorners,
    d_Lcorners := PySem.W.fnOf "_law_corners" "_law_corners" (defArgs s_Lcorners) (defBody s_Lcorners) (defScope s_Lcorners) .none kV_Lcorners dc_Lcorners pm_Lcorners an_Lcorners cd_Lcorners ct_Lcorners,
    f_Lparts := f_Lparts,
    d_Lparts := PySem.W.fnOf "_law_parts" "_law_parts" (defArgs s_Lparts) (defBody s_Lparts) (defScope s_Lparts) .none kV_Lparts dc_Lparts pm_Lparts an_Lparts cd_Lparts ct_Lparts,
    f_Lleast := f_Lleast,
    d_Lleast := PySem.W.fnOf "_law_least" "_law_least" (defArgs s_Lleast) (defBody s_Lleast) (defScope s_Lleast) .none kV_Lleast dc_Lleast pm_Lleast an_Lleast cd_Lleast ct_Lleast,
    f_Lright_number := f_Lright_number,
    d_Lright_number := PySem.W.fnOf "_law_right_number" "_law_right_number" (defArgs s_Lright_number) (defBody s_Lright_number) (defScope s_Lright_number) .none kV_Lright_number dc_Lright_number pm_Lright_number an_Lright_number cd_Lright_number ct_Lright_number,
    f_Lat_door := f_Lat_door,
    d_Lat_door := PySem.W.fnOf "_law_at_door" "_law_at_door" (defArgs s_Lat_door) (defBody s_Lat_door) (defScope s_Lat_door) .none kV_Lat_door dc_Lat_door pm_Lat_door an_Lat_door cd_Lat_door ct_Lat_door,
    f_Lright_refusals := f_Lright_refusals,
    d_Lright_refusals := PySem.W.fnOf "_law_right_refusals" "_law_right_refusals" (defArgs s_Lright_refusals) (defBody s_Lright_refusals) (defScope s_Lright_refusals) .none kV_Lright_refusals dc_Lright_refusals pm_Lright_refusals an_Lright_refusals (.ref cc_Lright_refusals) ct_Lright_refusals,
    f_law := f_law,
    d_law := PySem.W.fnOf "law" "law" (defArgs s_law) (defBody s_law) (defScope s_law) .none kV_law dc_law pm_law an_law cd_law ct_law,
    C_CallError := C_CallError,
    C_BadLadder := C_BadLadder,
    C_BadKinds := C_BadKinds,
    C_BadEnds := C_BadEnds,
    C_BadEnd := C_BadEnd,
    C_BadWords := C_BadWords,
    t_LADDER_MOST := t_LADDER_MOST,
    t_TOLD_LADDER_MOST := t_TOLD_LADDER_MOST,
    t_COUNT_LADDER_MOST := t_COUNT_LADDER_MOST,
    t_BOTH_LADDER_MOST := t_BOTH_LADDER_MOST,
    t_LEAST_BOTH_MOST := t_LEAST_BOTH_MOST }
  have O : Ok K mg T := {
    F_is_whole := F_is_whole,
    b_is_whole := Jv.bindsD (K := K) (T := q_is_whole) (m := 3) t_is_whole rfl rfl fun us hl => match us, hl with | [_, _, _], _ => ⟨_, rfl, rfl⟩,
    b1_is_whole := ⟨(.cons rfl .nil), Jv.bindsD (K := K) (T := q_is_whole) (m := 2) t_is_whole rfl rfl fun us hl => match us, hl with | [_, _], _ => ⟨_, rfl, rfl⟩⟩,
    b2_is_whole := ⟨(.cons rfl (.cons rfl .nil)), Jv.bindsD (K := K) (T := q_is_whole) (m := 1) t_is_whole rfl rfl fun us hl => match us, hl with | [_], _ => ⟨_, rfl, rfl⟩⟩,
    m_is_whole := PySem.W.mg_of X G a_is_whole,
    F_is_sequence := F_is_sequence,
    b_is_sequence := F_is_sequence.binds (ps := ["thing"]) fun _ _ _ _ _ _ us hl => match us, hl with | [_], _ => rfl,
    m_is_sequence := PySem.W.mg_of X G a_is_sequence,
    F_check_ladder := F_check_ladder,
    b_check_ladder := Jv.bindsD (K := K) (T := q_check_ladder) (m := 2) t_check_ladder rfl rfl fun us hl => match us, hl with | [_, _], _ => ⟨_, rfl, rfl⟩,
    b1_check_ladder := ⟨(.cons ⟨_, rfl⟩ .nil), Jv.bindsD (K := K) (T := q_check_ladder) (m := 1) t_check_ladder rfl rfl fun us hl => match us, hl with | [_], _ => ⟨_, rfl, rfl⟩⟩,
    m_check_ladder := PySem.W.mg_of X G a_check_ladder,
    F_allowed_ends := F_allowed_ends,
    b_allowed_ends := F_allowed_ends.binds (ps := ["ladder", "ends"]) fun _ _ _ _ _ _ us hl => match us, hl with | [_, _], _ => rfl,
    m_allowed_ends := PySem.W.mg_of X G a_allowed_ends,
    F_words_left := F_words_left,
    b_words_left := F_words_left.binds (ps := ["ladder", "words"]) fun _ _ _ _ _ _ us hl => match us, hl with | [_, _], _ => rfl,
    m_words_left := PySem.W.mg_of X G a_words_left,
    F_counts_by_words := F_counts_by_words,
    b_counts_by_words := F_counts_by_words.binds (ps := ["allowed", "words"]) fun _ _ _ _ _ _ us hl => match us, hl with | [_, _], _ => rfl,
    m_counts_by_words := PySem.W.mg_of X G a_counts_by_words,
    F_split_at := F_split_at,
    b_split_at := F_split_at.binds (ps := ["allowed", "counts", "words", "end"]) fun _ _ _ _ _ _ us hl => match us, hl with | [_, _, _, _], _ => rfl,
    m_split_at := PySem.W.mg_of X G a_split_at,
    F_told_split := F_told_split,
    b3_told_split := ⟨(.cons rfl (.cons rfl (.cons ⟨_, rfl⟩ .nil))), Jv.bindsK (K := K) (D := qk_told_split) (m := 1) [("ends", .none), ("words", .none), ("end", .int (0) qkt2_told_split)] (Jv.hmsC kw0_told_split (Jv.hmsC kw1_told_split (Jv.hmsC kw2_told_split Jv.hms0))) rfl fun us hl => match us, hl with | [_], _ => ⟨_, _, _, _, _, _, rfl, rfl, ⟨_, _, _, _, _, _, rfl, rfl, ⟨_, _, _, _, _, _, rfl, rfl, rfl⟩⟩⟩⟩,
    m_told_split := PySem.W.mg_of X G a_told_split,
    F_told_within := F_told_within,
    b3_told_within := ⟨(.cons rfl (.cons rfl (.cons ⟨_, rfl⟩ .nil))), Jv.bindsK (K := K) (D := qk_told_within) (m := 1) [("ends", .none), ("words", .none), ("end", .int (0) qkt2_told_within)] (Jv.hmsC kw0_told_within (Jv.hmsC kw1_told_within (Jv.hmsC kw2_told_within Jv.hms0))) rfl fun us hl => match us, hl with | [_], _ => ⟨_, _, _, _, _, _, rfl, rfl, ⟨_, _, _, _, _, _, rfl, rfl, ⟨_, _, _, _, _, _, rfl, rfl, rfl⟩⟩⟩⟩,
    m_told_within := PySem.W.mg_of X G a_told_within,
    F_told_count := F_told_count,
    b_told_count := F_told_count.binds (ps := ["ladder"]) fun _ _ _ _ _ _ us hl => match us, hl with | [_], _ => rfl,
    m_told_count := PySem.W.mg_of X G a_told_count,
    F_greatest_answering := F_greatest_answering,
    b_greatest_answering := F_greatest_answering.binds (ps := ["counts", "many"]) fun _ _ _ _ _ _ us hl => match us, hl with | [_, _], _ => rfl,
    m_greatest_answering := PySem.W.mg_of X G a_greatest_answering,
    F_both_tables := F_both_tables,
    b_both_tables := F_both_tables.binds (ps := ["allowed", "most"]) fun _ _ _ _ _ _ us hl => match us, hl with | [_, _], _ => rfl,
    m_both_tables := PySem.W.mg_of X G a_both_tables,
    F_splits_first := F_splits_first,
    b_splits_first := F_splits_first.binds (ps := ["ladder", "ends"]) fun _ _ _ _ _ _ us hl => match us, hl with | [_, _], _ => rfl,
    m_splits_first := PySem.W.mg_of X G a_splits_first,
    F_split_for := F_split_for,
    b_split_for := F_split_for.binds (ps := ["ladder", "q", "ends"]) fun _ _ _ _ _ _ us hl => match us, hl with | [_, _, _], _ => rfl,
    m_split_for := PySem.W.mg_of X G a_split_for,
    F_check_numbers := F_check_numbers,
    b_check_numbers := F_check_numbers.binds (ps := ["ladder", "ends", "numbers"]) fun _ _ _ _ _ _ us hl => match us, hl with | [_, _, _], _ => rfl,
    m_check_numbers := PySem.W.mg_of X G a_check_numbers,
    F_most_both := F_most_both,
    b1_most_both := ⟨(.cons rfl .nil), Jv.bindsK (K := K) (D := qk_most_both) (m := 2) [("ends", .none)] (Jv.hmsC kw0_most_both Jv.hms0) rfl fun us hl => match us, hl with | [_, _], _ => ⟨_, _, _, _, _, _, rfl, rfl, rfl⟩⟩,
    m_most_both := PySem.W.mg_of X G a_most_both,
    F_both_split := F_both_split,
    b1_both_split := ⟨(.cons rfl .nil), Jv.bindsK (K := K) (D := qk_both_split) (m := 2) [("ends", .none)] (Jv.hmsC kw0_both_split Jv.hms0) rfl fun us hl => match us, hl with | [_, _], _ => ⟨_, _, _, _, _, _, rfl, rfl, rfl⟩⟩,
    m_both_split := PySem.W.mg_of X G a_both_split,
    F_serves_both := F_serves_both,
    b1_serves_both := ⟨(.cons rfl .nil), Jv.bindsK (K := K) (D := qk_serves_both) (m := 3) [("ends", .none)] (Jv.hmsC kw0_serves_both Jv.hms0) rfl fun us hl => match us, hl with | [_, _, _], _ => ⟨_, _, _, _, _, _, rfl, rfl, rfl⟩⟩,
    m_serves_both := PySem.W.mg_of X G a_serves_both,
    F_staircase := F_staircase,
    b1_staircase := ⟨(.cons rfl .nil), Jv.bindsK (K := K) (D := qk_staircase) (m := 1) [("ends", .none)] (Jv.hmsC kw0_staircase Jv.hms0) rfl fun us hl => match us, hl with | [_], _ => ⟨_, _, _, _, _, _, rfl, rfl, rfl⟩⟩,
    m_staircase := PySem.W.mg_of X G a_staircase,
    F_least_both := F_least_both,
    b_least_both := F_least_both.binds (ps := ["p", "q"]) fun _ _ _ _ _ _ us hl => match us, hl with | [_, _], _ => rfl,
    m_least_both := PySem.W.mg_of X G a_least_both,
    F_Lmix := F_Lmix,
    b_Lmix := F_Lmix.binds (ps := ["_law_number", "_law_turn"]) fun _ _ _ _ _ _ us hl => match us, hl with | [_, _], _ => rfl,
    m_Lmix := PySem.W.mg_of X G a_Lmix,
    F_Lhand := F_Lhand,
    b_Lhand := F_Lhand.binds (ps := ["_law_script"]) fun _ _ _ _ _ _ us hl => match us, hl with | [_], _ => rfl,
    m_Lhand := PySem.W.mg_of X G a_Lhand,
    F_Ldraw := F_Ldraw,
    b_Ldraw := F_Ldraw.binds (ps := ["_law_hand_here", "_law_many"]) fun _ _ _ _ _ _ us hl => match us, hl with | [_, _], _ => rfl,
    m_Ldraw := PySem.W.mg_of X G a_Ldraw,
    F_Lis_number := F_Lis_number,
    b_Lis_number := F_Lis_number.binds (ps := ["_law_thing"]) fun _ _ _ _ _ _ us hl => match us, hl with | [_], _ => rfl,
    m_Lis_number := PySem.W.mg_of X G a_Lis_number,
    F_Lnumbers := F_Lnumbers,
    b_Lnumbers := F_Lnumbers.binds (ps := ["_law_thing", "_law_many"]) fun _ _ _ _ _ _ us hl => match us, hl with | [_, _], _ => rfl,
    m_Lnumbers := PySem.W.mg_of X G a_Lnumbers,
    F_Lsome_ends := F_Lsome_ends,
    b_Lsome_ends := F_Lsome_ends.binds (ps := ["_law_hand_here", "_law_ladder"]) fun _ _ _ _ _ _ us hl => match us, hl with | [_, _], _ => rfl,
    m_Lsome_ends := PySem.W.mg_of X G a_Lsome_ends,
    F_Lallowed := F_Lallowed,
    b_Lallowed := F_Lallowed.binds (ps := ["_law_ladder", "_law_limits"]) fun _ _ _ _ _ _ us hl => match us, hl with | [_, _], _ => rfl,
    m_Lallowed := PySem.W.mg_of X G a_Lallowed,
    F_Lreach := F_Lreach,
    b_Lreach := F_Lreach.binds (ps := ["_law_line", "_law_least_here"]) fun _ _ _ _ _ _ us hl => match us, hl with | [_, _], _ => rfl,
    m_Lreach := PySem.W.mg_of X G a_Lreach,
    F_Llines := F_Llines,
    b_Llines := F_Llines.binds (ps := ["_law_allowed_here"]) fun _ _ _ _ _ _ us hl => match us, hl with | [_], _ => rfl,
    m_Llines := PySem.W.mg_of X G a_Llines,
    F_Lodd_ladder := F_Lodd_ladder,
    b_Lodd_ladder := F_Lodd_ladder.binds (ps := ["_law_hand_here", "_law_most"]) fun _ _ _ _ _ _ us hl => match us, hl with | [_, _], _ => rfl,
    m_Lodd_ladder := PySem.W.mg_of X G a_Lodd_ladder,
    F_Lodd_kinds := F_Lodd_kinds,
    b_Lodd_kinds := F_Lodd_kinds.binds (ps := ["_law_hand_here", "_law_most"]) fun _ _ _ _ _ _ us hl => match us, hl with | [_, _], _ => rfl,
    m_Lodd_kinds := PySem.W.mg_of X G a_Lodd_kinds,
    F_Lodd_ends := F_Lodd_ends,
    b_Lodd_ends := F_Lodd_ends.binds (ps := ["_law_hand_here", "_law_ladder"]) fun _ _ _ _ _ _ us hl => match us, hl with | [_, _], _ => rfl,
    m_Lodd_ends := PySem.W.mg_of X G a_Lodd_ends,
    F_Lrefused := F_Lrefused,
    b_Lrefused := F_Lrefused.binds (ps := ["_law_call"]) fun _ _ _ _ _ _ us hl => match us, hl with | [_], _ => rfl,
    m_Lrefused := PySem.W.mg_of X G a_Lrefused,
    F_Lcorners := F_Lcorners,
    b_Lcorners := F_Lcorners.binds (ps := ["_law_line"]) fun _ _ _ _ _ _ us hl => match us, hl with | [_], _ => rfl,
    m_Lcorners := PySem.W.mg_of X G a_Lcorners,
    F_Lparts := F_Lparts,
    b_Lparts := F_Lparts.binds (ps := ["_law_allowed_here", "_law_lines_here", "_law_many"]) fun _ _ _ _ _ _ us hl => match us, hl with | [_, _, _], _ => rfl,
    m_Lparts := PySem.W.mg_of X G a_Lparts,
    F_Lleast := F_Lleast,
    b_Lleast := F_Lleast.binds (ps := ["_law_lines_here", "_law_one", "_law_other"]) fun _ _ _ _ _ _ us hl => match us, hl with | [_, _, _], _ => rfl,
    m_Lleast := PySem.W.mg_of X G a_Lleast,
    F_Lright_number := F_Lright_number,
    b_Lright_number := F_Lright_number.binds (ps := ["_law_ladder", "_law_limits", "_law_allowed_here", "_law_lines_here", "_law_many"]) fun _ _ _ _ _ _ us hl => match us, hl with | [_, _, _, _, _], _ => rfl,
    m_Lright_number := PySem.W.mg_of X G a_Lright_number,
    F_Lat_door := F_Lat_door,
    b_Lat_door := F_Lat_door.binds (ps := ["_law_way", "_law_ladder", "_law_many", "_law_limits"]) fun _ _ _ _ _ _ us hl => match us, hl with | [_, _, _, _], _ => rfl,
    m_Lat_door := PySem.W.mg_of X G a_Lat_door,
    F_Lright_refusals := F_Lright_refusals,
    b_Lright_refusals := F_Lright_refusals.binds (ps := ["_law_hand_here", "_law_ladder", "_law_limits"]) fun _ _ _ _ _ _ us hl => match us, hl with | [_, _, _], _ => rfl,
    m_Lright_refusals := PySem.W.mg_of X G a_Lright_refusals,
    F_law := F_law,
    b_law := F_law.binds (ps := ["_law_script"]) fun _ _ _ _ _ _ us hl => match us, hl with | [_], _ => rfl,
    m_law := PySem.W.mg_of X G a_law,
    m_CallError := PySem.W.mg_of X G a_CallError,
    e_CallError := ⟨x_CallError, k_CallError, b_CallError, t_CallError, i_CallError, s_CallError⟩,
    m_BadLadder := PySem.W.mg_of X G a_BadLadder,
    e_BadLadder := ⟨x_BadLadder, k_BadLadder, b_BadLadder, t_BadLadder, i_BadLadder, s_BadLadder⟩,
    m_BadKinds := PySem.W.mg_of X G a_BadKinds,
    u_BadKinds_BadLadder := u_BadKinds_BadLadder,
    u_BadKinds_BadEnds := u_BadKinds_BadEnds,
    e_BadKinds := ⟨x_BadKinds, k_BadKinds, b_BadKinds, t_BadKinds, i_BadKinds, s_BadKinds⟩,
    m_BadEnds := PySem.W.mg_of X G a_BadEnds,
    u_BadEnds_BadLadder := u_BadEnds_BadLadder,
    e_BadEnds := ⟨x_BadEnds, k_BadEnds, b_BadEnds, t_BadEnds, i_BadEnds, s_BadEnds⟩,
    m_BadEnd := PySem.W.mg_of X G a_BadEnd,
    e_BadEnd := ⟨x_BadEnd, k_BadEnd, b_BadEnd, t_BadEnd, i_BadEnd, s_BadEnd⟩,
    m_BadWords := PySem.W.mg_of X G a_BadWords,
    e_BadWords := ⟨x_BadWords, k_BadWords, b_BadWords, t_BadWords, i_BadWords, s_BadWords⟩,
    z_ValueError := PySem.W.mg_none_of X G z_ValueError,
    z_abs := PySem.W.mg_none_of X G z_abs,
    z_all := PySem.W.mg_none_of X G z_all,
    z_bool := PySem.W.mg_none_of X G z_bool,
    z_enumerate := PySem.W.mg_none_of X G z_enumerate,
    z_int := PySem.W.mg_none_of X G z_int,
    z_isinstance := PySem.W.mg_none_of X G z_isinstance,
    z_len := PySem.W.mg_none_of X G z_len,
    z_list := PySem.W.mg_none_of X G z_list,
    z_max := PySem.W.mg_none_of X G z_max,
    z_min := PySem.W.mg_none_of X G z_min,
    z_range := PySem.W.mg_none_of X G z_range,
    z_sorted := PySem.W.mg_none_of X G z_sorted,
    z_sum := PySem.W.mg_none_of X G z_sum,
    z_tuple := PySem.W.mg_none_of X G z_tuple,
    z_zip := PySem.W.mg_none_of X G z_zip,
    c_LADDER_MOST := PySem.W.mg_of X G c_LADDER_MOST,
    c_TOLD_LADDER_MOST := PySem.W.mg_of X G c_TOLD_LADDER_MOST,
    c_COUNT_LADDER_MOST := PySem.W.mg_of X G c_COUNT_LADDER_MOST,
    c_BOTH_LADDER_MOST := PySem.W.mg_of X G c_BOTH_LADDER_MOST,
    c_LEAST_BOTH_MOST := PySem.W.mg_of X G c_LEAST_BOTH_MOST,
    kb2_ends_both_split := Jv.kbK (K := K) (D := qk_both_split) [] Jv.hms0 (fun us ws h1 h2 => match us, h1, ws, h2 with | [_, _], _, [_], _ => rfl) fun r1 r2 => (Vals.append r1 (.cons (Jv.vals_getD r2 0) .nil)),
    kb2_ends_most_both := Jv.kbK (K := K) (D := qk_most_both) [] Jv.hms0 (fun us ws h1 h2 => match us, h1, ws, h2 with | [_, _], _, [_], _ => rfl) fun r1 r2 => (Vals.append r1 (.cons (Jv.vals_getD r2 0) .nil)),
    kb3_ends_serves_both := Jv.kbK (K := K) (D := qk_serves_both) [] Jv.hms0 (fun us ws h1 h2 => match us, h1, ws, h2 with | [_, _, _], _, [_], _ => rfl) fun r1 r2 => (Vals.append r1 (.cons (Jv.vals_getD r2 0) .nil)),
    kb1_ends_staircase := Jv.kbK (K := K) (D := qk_staircase) [] Jv.hms0 (fun us ws h1 h2 => match us, h1, ws, h2 with | [_], _, [_], _ => rfl) fun r1 r2 => (Vals.append r1 (.cons (Jv.vals_getD r2 0) .nil)),
    kb1_ends_words_end_told_split := Jv.kbK (K := K) (D := qk_told_split) [] Jv.hms0 (fun us ws h1 h2 => match us, h1, ws, h2 with | [_], _, [_, _, _], _ => rfl) fun r1 r2 => (Vals.append r1 (.cons (Jv.vals_getD r2 0) (.cons (Jv.vals_getD r2 1) (.cons (Jv.vals_getD r2 2) .nil)))),
    kb1_ends_told_within := Jv.kbK (K := K) (D := qk_told_within) [("words", .none), ("end", .int (0) qkt2_told_within)] (Jv.hmsC kw1_told_within (Jv.hmsC kw2_told_within Jv.hms0)) (fun us ws h1 h2 => match us, h1, ws, h2 with | [_], _, [_], _ => ⟨_, _, _, _, _, _, rfl, rfl, ⟨_, _, _, _, _, _, rfl, rfl, rfl⟩⟩) fun r1 r2 => (Vals.append r1 (.cons (Jv.vals_getD r2 0) (.cons (rfl) (.cons (⟨_, rfl⟩) .nil)))) }
  have LC : LawC K T cc_Lright_refusals := ⟨⟨_, _, _, _, _, _, _, _, rfl, l_Lright_refusals, c_Lright_refusals⟩⟩
  have tabP : h.get? P_Lright_refusals = some { cls := .none, data := .fields #[] } := own _ (PySem.W.mg_of X G a_Lright_refusals) cc_Lright_refusals P_Lright_refusals _ _ _ _ _ _ l_Lright_refusals rfl rfl v_Lright_refusals v11_Lright_refusals
  have hdP : PySem.W.CodeHd h cc_Lright_refusals P_Lright_refusals := ⟨_, cvs_Lright_refusals, cf_Lright_refusals, cft_Lright_refusals, cg_Lright_refusals, cgt_Lright_refusals, ci_Lright_refusals, cx_Lright_refusals, ctt_Lright_refusals, X _ _ v_Lright_refusals, rfl, rfl, v11_Lright_refusals, w11_Lright_refusals, v18_Lright_refusals, v7_Lright_refusals, v9_Lright_refusals, v10_Lright_refusals, nPC_Lright_refusals⟩
  exact ⟨T.d_law, [(cc_Lright_refusals, P_Lright_refusals)], sp_lawT K P_Lright_refusals, fun p hp => by cases List.mem_singleton.mp hp; exact tabP, fun p hp => by cases List.mem_singleton.mp hp; exact nP_Lright_refusals, fun p hp => by cases List.mem_singleton.mp hp; exact hdP, fun s v => .of_eq rfl,
    fun H a ns hl _ hT hS => ⟨a, ns, rfl, hS, hl, hT _ (List.mem_singleton.mpr rfl), fun _ => rfl⟩, fun base _ _ TB => ok_law T O LC (TB _ (List.mem_singleton.mpr rfl))⟩
end K39
open PySem PySem.W PyProof.Rows
set_option maxHeartbeats 0 in
theorem PySem.Challenge.cw_risingcalls_k39_whole_staircases_holds : PySem.Challenge.rw_risingcalls_k39_whole_staircases.Holds := by
  w_on; o_law; k_head; (case hw => w_witness2)
  k_fill
  refine Jv.walkOL (l := PySem.Challenge.rw_risingcalls_k39_whole_staircases) (n := 63) (k := 14) (x := "_law_script") (nm := "_law_right_refusals") (CX := fun _ => L2.CX0) rfl (by decide) rfl ⟨rfl, by decide, by decide⟩ (by first | rfl | kernel_rfl) (fun w h Y => PySem.W.km_in_of Y) ?F (fun _ _ _ _ _ h => h)
  case F =>
    intro w mg fa h _ KX G hmg own
    refine' K39.all_mk KX G hmg own ?a_CallError ?a_BadLadder ?a_BadKinds ?a_BadEnds ?a_BadEnd ?a_BadWords ?a_is_whole ?l_is_whole ?c_is_whole ?k_is_whole ?t_is_whole ?a_is_sequence ?l_is_sequence ?c_is_sequence ?k_is_sequence ?a_check_ladder ?l_check_ladder ?c_check_ladder ?k_check_ladder ?t_check_ladder ?a_allowed_ends ?l_allowed_ends ?c_allowed_ends ?k_allowed_ends ?a_words_left ?l_words_left ?c_words_left ?k_words_left ?a_counts_by_words ?l_counts_by_words ?c_counts_by_words ?k_counts_by_words ?a_split_at ?l_split_at ?c_split_at ?k_split_at ?a_told_split ?l_told_split ?c_told_split ?k_told_split ?kw0_told_split ?kw1_told_split ?kw2_told_split ?a_told_within ?l_told_within ?c_told_within ?k_told_within ?kw0_told_within ?kw1_told_within ?kw2_told_within ?a_told_count ?l_told_count ?c_told_count ?k_told_count ?a_greatest_answering ?l_greatest_answering ?c_greatest_answering ?k_greatest_answering ?a_both_tables ?l_both_tables ?c_both_tables ?k_both_tables ?a_splits_first ?l_splits_first ?c_splits_first ?k_splits_first ?a_split_for ?l_split_for ?c_split_for ?k_split_for ?a_check_numbers ?l_check_numbers ?c_check_numbers ?k_check_numbers ?a_most_both ?l_most_both ?c_most_both ?k_most_both ?kw0_most_both ?a_both_split ?l_both_split ?c_both_split ?k_both_split ?kw0_both_split ?a_serves_both ?l_serves_both ?c_serves_both ?k_serves_both ?kw0_serves_both ?a_staircase ?l_staircase ?c_staircase ?k_staircase ?kw0_staircase ?a_least_both ?l_least_both ?c_least_both ?k_least_both ?a_Lmix ?l_Lmix ?c_Lmix ?k_Lmix ?a_Lhand ?l_Lhand ?c_Lhand ?k_Lhand ?a_Ldraw ?l_Ldraw ?c_Ldraw ?k_Ldraw ?a_Lis_number ?l_Lis_number ?c_Lis_number ?k_Lis_number ?a_Lnumbers ?l_Lnumbers ?c_Lnumbers ?k_Lnumbers ?a_Lsome_ends ?l_Lsome_ends ?c_Lsome_ends ?k_Lsome_ends ?a_Lallowed ?l_Lallowed ?c_Lallowed ?k_Lallowed ?a_Lreach ?l_Lreach ?c_Lreach ?k_Lreach ?a_Llines ?l_Llines ?c_Llines ?k_Llines ?a_Lodd_ladder ?l_Lodd_ladder ?c_Lodd_ladder ?k_Lodd_ladder ?a_Lodd_kinds ?l_Lodd_kinds ?c_Lodd_kinds ?k_Lodd_kinds ?a_Lodd_ends ?l_Lodd_ends ?c_Lodd_ends ?k_Lodd_ends ?a_Lrefused ?l_Lrefused ?c_Lrefused ?k_Lrefused ?a_Lcorners ?l_Lcorners ?c_Lcorners ?k_Lcorners ?a_Lparts ?l_Lparts ?c_Lparts ?k_Lparts ?a_Lleast ?l_Lleast ?c_Lleast ?k_Lleast ?a_Lright_number ?l_Lright_number ?c_Lright_number ?k_Lright_number ?a_Lat_door ?l_Lat_door ?c_Lat_door ?k_Lat_door ?a_Lright_refusals ?l_Lright_refusals ?c_Lright_refusals ?k_Lright_refusals ?a_law ?l_law ?c_law ?k_law ?k_CallError ?b_CallError ?t_CallError ?i_CallError ?s_CallError ?x_CallError ?k_BadLadder ?b_BadLadder ?t_BadLadder ?i_BadLadder ?s_BadLadder ?x_BadLadder ?u_BadKinds_BadLadder ?u_BadKinds_BadEnds ?k_BadKinds ?b_BadKinds ?t_BadKinds ?i_BadKinds ?s_BadKinds ?x_BadKinds ?u_BadEnds_BadLadder ?k_BadEnds ?b_BadEnds ?t_BadEnds ?i_BadEnds ?s_BadEnds ?x_BadEnds ?k_BadEnd ?b_BadEnd ?t_BadEnd ?i_BadEnd ?s_BadEnd ?x_BadEnd ?k_BadWords ?b_BadWords ?t_BadWords ?i_BadWords ?s_BadWords ?x_BadWords ?z_ValueError ?z_abs ?z_all ?z_bool ?z_enumerate ?z_int ?z_isinstance ?z_len ?z_list ?z_max ?z_min ?z_range ?z_sorted ?z_sum ?z_tuple ?z_zip ?c_LADDER_MOST ?c_TOLD_LADDER_MOST ?c_COUNT_LADDER_MOST ?c_BOTH_LADDER_MOST ?c_LEAST_BOTH_MOST ?v_Lright_refusals ?v11_Lright_refusals ?w11_Lright_refusals ?v18_Lright_refusals ?v7_Lright_refusals ?v9_Lright_refusals ?v10_Lright_refusals ?nPC_Lright_refusals ?nP_Lright_refusals
    (case a_CallError => k_is)
    (case a_BadLadder => k_is)
    (case a_BadKinds => k_is)
    (case a_BadEnds => k_is)
    (case a_BadEnd => k_is)
    (case a_BadWords => k_is)
    (case a_is_whole => k_is)
    (case l_is_whole => k_is)
    (case c_is_whole => k_is)
    (case k_is_whole => k_is)
    (case t_is_whole => k_is)
    (case a_is_sequence => k_is)
    (case l_is_sequence => k_is)
    (case c_is_sequence => k_is)
    (case k_is_sequence => k_is)
    (case a_check_ladder => k_is)
    (case l_check_ladder => k_is)
    (case c_check_ladder => k_is)
    (case k_check_ladder => k_is)
    (case t_check_ladder => k_is)
    (case a_allowed_ends => k_is)
    (case l_allowed_ends => k_is)
    (case c_allowed_ends => k_is)
    (case k_allowed_ends => k_is)
    (case a_words_left => k_is)
    (case l_words_left => k_is)
    (case c_words_left => k_is)
    (case k_words_left => k_is)
    (case a_counts_by_words => k_is)
    (case l_counts_by_words => k_is)
    (case c_counts_by_words => k_is)
    (case k_counts_by_words => k_is)
    (case a_split_at => k_is)
    (case l_split_at => k_is)
    (case c_split_at => k_is)
    (case k_split_at => k_is)
    (case a_told_split => k_is)
    (case l_told_split => k_is)
    (case c_told_split => k_is)
    (case k_told_split => k_is)
    (case kw0_told_split => k_is)
    (case kw1_told_split => k_is)
    (case kw2_told_split => k_is)
    (case a_told_within => k_is)
    (case l_told_within => k_is)
    (case c_told_within => k_is)
    (case k_told_within => k_is)
    (case kw0_told_within => k_is)
    (case kw1_told_within => k_is)
    (case kw2_told_within => k_is)
    (case a_told_count => k_is)
    (case l_told_count => k_is)
    (case c_told_count => k_is)
    (case k_told_count => k_is)
    (case a_greatest_answering => k_is)
    (case l_greatest_answering => k_is)
    (case c_greatest_answering => k_is)
    (case k_greatest_answering => k_is)
    (case a_both_tables => k_is)
    (case l_both_tables => k_is)
    (case c_both_tables => k_is)
    (case k_both_tables => k_is)
    (case a_splits_first => k_is)
    (case l_splits_first => k_is)
    (case c_splits_first => k_is)
    (case k_splits_first => k_is)
    (case a_split_for => k_is)
    (case l_split_for => k_is)
    (case c_split_for => k_is)
    (case k_split_for => k_is)
    (case a_check_numbers => k_is)
    (case l_check_numbers => k_is)
    (case c_check_numbers => k_is)
    (case k_check_numbers => k_is)
    (case a_most_both => k_is)
    (case l_most_both => k_is)
    (case c_most_both => k_is)
    (case k_most_both => k_is)
    (case kw0_most_both => k_is)
    (case a_both_split => k_is)
    (case l_both_split => k_is)
    (case c_both_split => k_is)
    (case k_both_split => k_is)
    (case kw0_both_split => k_is)
    (case a_serves_both => k_is)
    (case l_serves_both => k_is)
    (case c_serves_both => k_is)
    (case k_serves_both => k_is)
    (case kw0_serves_both => k_is)
    (case a_staircase => k_is)
    (case l_staircase => k_is)
    (case c_staircase => k_is)
    (case k_staircase => k_is)
    (case kw0_staircase => k_is)
    (case a_least_both => k_is)
    (case l_least_both => k_is)
    (case c_least_both => k_is)
    (case k_least_both => k_is)
    (case a_Lmix => k_is)
    (case l_Lmix => k_is)
    (case c_Lmix => k_is)
    (case k_Lmix => k_is)
    (case a_Lhand => k_is)
    (case l_Lhand => k_is)
    (case c_Lhand => k_is)
    (case k_Lhand => k_is)
    (case a_Ldraw => k_is)
    (case l_Ldraw => k_is)
    (case c_Ldraw => k_is)
    (case k_Ldraw => k_is)
    (case a_Lis_number => k_is)
    (case l_Lis_number => k_is)
    (case c_Lis_number => k_is)
    (case k_Lis_number => k_is)
    (case a_Lnumbers => k_is)
    (case l_Lnumbers => k_is)
    (case c_Lnumbers => k_is)
    (case k_Lnumbers => k_is)
    (case a_Lsome_ends => k_is)
    (case l_Lsome_ends => k_is)
    (case c_Lsome_ends => k_is)
    (case k_Lsome_ends => k_is)
    (case a_Lallowed => k_is)
    (case l_Lallowed => k_is)
    (case c_Lallowed => k_is)
    (case k_Lallowed => k_is)
    (case a_Lreach => k_is)
    (case l_Lreach => k_is)
    (case c_Lreach => k_is)
    (case k_Lreach => k_is)
    (case a_Llines => k_is)
    (case l_Llines => k_is)
    (case c_Llines => k_is)
    (case k_Llines => k_is)
    (case a_Lodd_ladder => k_is)
    (case l_Lodd_ladder => k_is)
    (case c_Lodd_ladder => k_is)
    (case k_Lodd_ladder => k_is)
    (case a_Lodd_kinds => k_is)
    (case l_Lodd_kinds => k_is)
    (case c_Lodd_kinds => k_is)
    (case k_Lodd_kinds => k_is)
    (case a_Lodd_ends => k_is)
    (case l_Lodd_ends => k_is)
    (case c_Lodd_ends => k_is)
    (case k_Lodd_ends => k_is)
    (case a_Lrefused => k_is)
    (case l_Lrefused => k_is)
    (case c_Lrefused => k_is)
    (case k_Lrefused => k_is)
    (case a_Lcorners => k_is)
    (case l_Lcorners => k_is)
    (case c_Lcorners => k_is)
    (case k_Lcorners => k_is)
    (case a_Lparts => k_is)
    (case l_Lparts => k_is)
    (case c_Lparts => k_is)
    (case k_Lparts => k_is)
    (case a_Lleast => k_is)
    (case l_Lleast => k_is)
    (case c_Lleast => k_is)
    (case k_Lleast => k_is)
    (case a_Lright_number => k_is)
    (case l_Lright_number => k_is)
    (case c_Lright_number => k_is)
    (case k_Lright_number => k_is)
    (case a_Lat_door => k_is)
    (case l_Lat_door => k_is)
    (case c_Lat_door => k_is)
    (case k_Lat_door => k_is)
    (case a_Lright_refusals => k_is)
    (case l_Lright_refusals => k_is)
    (case c_Lright_refusals => k_is)
    (case k_Lright_refusals => k_is)
    (case a_law => k_is)
    (case l_law => k_is)
    (case c_law => k_is)
    (case k_law => k_is)
    (case k_CallError => k_is)
    (case b_CallError => k_is)
    (case t_CallError => k_is)
    (case i_CallError => k_is)
    (case s_CallError => first | rfl | k_is)
    (case x_CallError => k_exc)
    (case k_BadLadder => k_is)
    (case b_BadLadder => k_is)
    (case t_BadLadder => k_is)
    (case i_BadLadder => k_is)
    (case s_BadLadder => first | rfl | k_is)
    (case x_BadLadder => k_exc)
    (case u_BadKinds_BadLadder => first | rfl | k_is)
    (case u_BadKinds_BadEnds => first | rfl | k_is)
    (case k_BadKinds => k_is)
    (case b_BadKinds => k_is)
    (case t_BadKinds => k_is)
    (case i_BadKinds => k_is)
    (case s_BadKinds => first | rfl | k_is)
    (case x_BadKinds => k_exc)
    (case u_BadEnds_BadLadder => first | rfl | k_is)
    (case k_BadEnds => k_is)
    (case b_BadEnds => k_is)
    (case t_BadEnds => k_is)
    (case i_BadEnds => k_is)
    (case s_BadEnds => first | rfl | k_is)
    (case x_BadEnds => k_exc)
    (case k_BadEnd => k_is)
    (case b_BadEnd => k_is)
    (case t_BadEnd => k_is)
    (case i_BadEnd => k_is)
    (case s_BadEnd => first | rfl | k_is)
    (case x_BadEnd => k_exc)
    (case k_BadWords => k_is)
    (case b_BadWords => k_is)
    (case t_BadWords => k_is)
    (case i_BadWords => k_is)
    (case s_BadWords => first | rfl | k_is)
    (case x_BadWords => k_exc)
    (case z_ValueError => k_is)
    (case z_abs => k_is)
    (case z_all => k_is)
    (case z_bool => k_is)
    (case z_enumerate => k_is)
    (case z_int => k_is)
    (case z_isinstance => k_is)
    (case z_len => k_is)
    (case z_list => k_is)
    (case z_max => k_is)
    (case z_min => k_is)
    (case z_range => k_is)
    (case z_sorted => k_is)
    (case z_sum => k_is)
    (case z_tuple => k_is)
    (case z_zip => k_is)
    (case c_LADDER_MOST => k_is)
    (case c_TOLD_LADDER_MOST => k_is)
    (case c_COUNT_LADDER_MOST => k_is)
    (case c_BOTH_LADDER_MOST => k_is)
    (case c_LEAST_BOTH_MOST => k_is)
    (case v_Lright_refusals => k_is)
    (case v11_Lright_refusals => rfl)
    (case w11_Lright_refusals => rfl)
    (case v18_Lright_refusals => rfl)
    (case v7_Lright_refusals => rfl)
    (case v9_Lright_refusals => rfl)
    (case v10_Lright_refusals => rfl)
    (case nPC_Lright_refusals => decide)
    (case nP_Lright_refusals => first | rfl | kernel_rfl)

